import PyProof.Rows.All
import Wide.All
import OpenK.AllK
import PySem.Challenge.RW_tilefloor_k11_heights
noncomputable section
set_option maxHeartbeats 4000000
set_option bootstrap.genMatcherCode false
set_option genSizeOf false
set_option Elab.async false
set_option linter.all false
set_option maxRecDepth 100000
set_option maxHeartbeats 4000000
namespace L2
open PySem PySem.Spec PyProof.Rows
def C3(s:Stmt):Arguments:=match s with
 |.FunctionDef _ a _ _ _ _ _ _ _ _=>a
 |_=>{ posonlyargs:=[],args:=[],vararg:=none,kwonlyargs:=[],kw_defaults:=[],kwarg:=none,defaults:=[] }
def BM(s:Stmt):List Stmt:=match s with
 |.FunctionDef _ _ b _ _ _ _ _ _ _=>b
 |_=>[]
def AF(s:Stmt):Scope:=match s with
 |.FunctionDef _ _ _ _ _ _ sc _ _ _=>sc
 |_=>{ kind:=.function,names:=[],isGenerator:=false,isCoroutine:=false }
end L2
namespace TF
open PySem PySem.Spec L2
open PyProof.Rows hiding St RelV
def EI(K:PySem.W.Frag)(C Dc:Addr):Bool:=match K.lookup C with
 |some ⟨_,_,.cls cd,_⟩=>cd.mro.contains (.ref Dc)
 |_=>false
def top(i:Nat):Stmt:=PySem.Challenge.pw_tilefloor_k11_heights.main.body.getD i (.Pass ⟨0,0,0,0⟩)
abbrev HM:Stmt:=top 4
abbrev C1:Stmt:=top 5
abbrev HF:Stmt:=top 6
abbrev Ir:Stmt:=top 7
abbrev Ln:Stmt:=top 8
abbrev K3:Stmt:=top 9
abbrev DU:Stmt:=top 10
abbrev IU:Stmt:=top 11
abbrev D2:Stmt:=top 12
abbrev Bt:Stmt:=top 13
abbrev Jw:Stmt:=top 14
abbrev BX:Stmt:=top 15
abbrev DW:Stmt:=top 16
abbrev KR:Stmt:=top 17
abbrev Cy:Stmt:=top 19
abbrev LD:Stmt:=top 20
abbrev Iy:Stmt:=top 21
abbrev De:Stmt:=top 22
abbrev Hd:Stmt:=top 23
abbrev C8:Stmt:=top 24
abbrev Bj:Stmt:=top 25
abbrev KA:Stmt:=top 27
abbrev L6:Stmt:=top 28
abbrev Iu:Stmt:=top 29
abbrev Cm:Stmt:=top 30
abbrev EH:Stmt:=top 31
abbrev Cq:Stmt:=top 32
abbrev GJ:Stmt:=top 33
abbrev DX:Stmt:=top 34
abbrev Di:Stmt:=top 35
abbrev DB:Stmt:=top 36
abbrev JG:Stmt:=top 37
abbrev Jy:Stmt:=top 38
abbrev JH:Stmt:=top 39
abbrev DC:Stmt:=top 40
abbrev PW:Stmt:=top 41
def hM0:Value:=.str "tilefloor.floors" 223
def hM1:Value:=.str "tilefloor.heights" 336
def hM2:Value:=.str "law_tilefloor_k11_heights" 399
def hR(u:Str)(k f:Nat)(m:Value):Str×Nat×Nat×Value:=(u,k,f,m)
def hT:List (Str×Nat×Nat×Value):=[hR "neighbours" 4 46 hM0,hR "corner_neighbours" 5 53 hM0,hR "all_around" 6 60 hM0,hR "reached" 11 93 hM0,hR "hangs_together" 12 100 hM0,hR "bare_squares" 13 105 hM0,hR "has_hole" 14 112 hM0,hR "meet_by_corner_alone" 15 119 hM0,hR "has_bare_corner" 16 126 hM0,hR "is_plain" 17 133 hM0,hR "is_number" 7 67 hM0,hR "is_pair" 8 74 hM0,hR "is_place" 9 81 hM0,hR "is_rising" 10 86 hM0,hR "holds_squares" 19 138 hM1,hR "is_light" 20 145 hM1,hR "ways_from" 21 152 hM1,hR "is_walked" 22 159 hM1,hR "steps_from" 23 166 hM1,hR "heights" 24 171 hM1,hR "fewest_turns" 25 176 hM1,hR "_law_cell" 27 183 hM2,hR "_law_mix" 28 190 hM2,hR "_law_floor" 30 202 hM2,hR "_law_near" 31 207 hM2,hR "_law_every" 32 212 hM2,hR "_law_all" 33 217 hM2,hR "_law_hangs" 34 222 hM2,hR "_law_no_hole" 35 229 hM2,hR "_law_no_pinch" 36 236 hM2,hR "_law_plain" 37 243 hM2,hR "_law_told" 38 250 hM2,hR "_law_whole" 29 197 hM2,hR "_law_sides" 39 257 hM2,hR "_law_good" 40 262 hM2,hR "law" 41 267 hM2]
def hD(p:Str×Nat×Nat×Value):FuncData:=PySem.W.fnOf p.1 p.1 (C3 (top p.2.1)) (BM (top p.2.1)) (AF (top p.2.1)) .none .none .none p.2.2.2 none (.ref (p.2.2.1-1)) .none
def hF(p:Str×Nat×Nat×Value):Addr×Obj:=(p.2.2.1,⟨.type "function",none,.func (hD p),#[]⟩)
def hOb(w:World)(a:Nat):Obj:=((PySem.W.openEnds treeTable PySem.Challenge.rw_tilefloor_k11_heights.row.prog w 3108).bind fun s=>s.heap.get? a).getD { cls:=.none,data:=.plain }
def hOt:List Nat:=[2,3,15,22,23,24,25,28,35,36,37,40,42,43,45,47,49,50,52,54,56,57,59,61,63,64,66,68,70,71,73,75,77,78,80,82,85,87,89,90,92,94,96,97,99,101,104,106,108,109,111,113,115,116,118,120,122,123,125,127,129,130,132,134,137,139,141,142,144,146,148,149,151,153,155,156,158,160,162,163,165,167,170,172,175,177,179,180,182,184,186,187,189,191,193,194,196,198,201,203,206,208,211,213,216,218,221,223,225,226,228,230,232,233,235,237,239,240,242,244,246,247,249,251,253,254,256,258,261,263,266]
def hK(w:World):PySem.W.Frag:=hT.map hF++hOt.map fun a=>(a,hOb w a)
def hAs:List Nat:=hT.map (·.2.2.1)++hOt
def hQ:Program:=PySem.W.view PySem.Challenge.pw_tilefloor_k11_heights [1,2,4,5,6,7,8,9,10,11,12,13,14,15,16,17,19,20,21,22,23,24,25,27,28,29,30,31,32,33,34,35,36,37,38,39,40,41]
theorem hAs_ok(w:World):hAs=(hK w).map (·.1):=by kernel_rfl
def hXt(s:Shared):Bool:=PySem.W.xlAt hQ [] s&&PySem.W.recOk (PySem.W.RowW.records (PySem.W.OpenRow.toRowW (PySem.W.OpenLaw.row PySem.Challenge.rw_tilefloor_k11_heights))) s
def hZs:List Str:=["len","range","min","max","tuple","sum","sorted","isinstance","list","int","bool","all","zip","abs","dict","set","ValueError"]
def hP(x:Str)(v:Value):Str×Value:=(x,v)
def hIs:List (Str×Value):=[]
def hC(x:Str)(a:Nat):Str×Nat:=(x,a)
def hCs:List (Str×Nat):=[hC "NotPlain" 37,hC "FloorError" 24]
def hUs:List (Nat×Nat):=[(37,24)]
def hB(K:PySem.W.Frag):Bool:=hT.all (fun p=>PySem.W.nsIn K mainGlobals p.1==some (some (.ref p.2.2.1))&&PySem.W.codeIn K (.ref (p.2.2.1-1)) p.1&&PySem.W.keepIn K (.ref p.2.2.1))&&(hZs.all (fun x=>PySem.W.nsIn K mainGlobals x==some none)&&(hIs.all (fun p=>PySem.W.nsIn K mainGlobals p.1==some (some p.2))&&(hCs.all (fun p=>PySem.W.nsIn K mainGlobals p.1==some (some (.ref p.2))&&PySem.W.excIn K p.2 [.type "ValueError",.type "Exception",.type "BaseException",.type "object"] "ValueError.__new__")&&(hUs.all (fun p=>EI K p.1 p.2)&&true))))
theorem hLeft:PySem.W.LeftO PySem.Challenge.rw_tilefloor_k11_heights.row.prog hQ [] hXt (fun s=>hAs.map s.heap.get?) (fun w=>(hK w).map fun p=>some p.2) 3108:=fun w=>by kernel_rfl
theorem hB_ok(w:World):hB (hK w)=true:=by kernel_rfl
end TF
namespace L2
open PySem PySem.Spec PyProof.Rows
abbrev Key:=Sum Int Str
def aD:Key->Value->Bool
 |.inl k,v=>Value.isInt k v
 |.inr x,v=>Value.isStrOf x v
def jw(w:World):Key->Int
 |.inl k=>hashInt k
 |.inr x=>hashStr w x
theorem BF:∀{k:Key}{v:Value},aD k v=true->(∃i t,k=Sum.inl i/\v=Value.int i t)\/(∃x t,k=Sum.inr x/\v=Value.str x t)
 |.inl i,v,h=>by
  obtain⟨t,e⟩:=Value.isInt_shape (k:=i) (v:=v) h;exact .inl ⟨i,t,rfl,e⟩
 |.inr x,v,h=>by
  obtain⟨t,e⟩:=Value.isStrOf_shape (x:=x) (v:=v) h;exact .inr ⟨x,t,rfl,e⟩
theorem b8(a b:Int):decide ((Sum.inl a:Key)=Sum.inl b)=(a==b):=by
 by_cases e:a=b
 ·subst e;simp
 ·have h:¬(Sum.inl a:Key)=Sum.inl b:=fun q=>e (Sum.inl.inj q);rw[decide_eq_false h];exact(beq_eq_false_iff_ne.mpr e).symm
theorem ay(a b:Str):decide ((Sum.inr a:Key)=Sum.inr b)=decide (a=b):=by
 by_cases e:a=b
 ·subst e;simp
 ·have h:¬(Sum.inr a:Key)=Sum.inr b:=fun q=>e (Sum.inr.inj q);rw[decide_eq_false h,decide_eq_false e]
theorem bE(a:Int)(b:Str):decide ((Sum.inl a:Key)=Sum.inr b)=false:=decide_eq_false (fun q=>nomatch q)
theorem cc(a:Str)(b:Int):decide ((Sum.inr a:Key)=Sum.inl b)=false:=decide_eq_false (fun q=>nomatch q)
def Mo(prog:Program)(w:World):PySem.KeyKind prog w Key where
 is:=aD
 hash:=jw w
 inj:=fun v a b ha hb=>by
  rcases BF ha with⟨i,t,rfl,rfl⟩|⟨x,t,rfl,rfl⟩
  ·rcases BF hb with⟨j,u,rfl,e⟩|⟨y,u,rfl,e⟩
   ·injection e with e1 _;rw[e1]
   ·exact nomatch e
  ·rcases BF hb with⟨j,u,rfl,e⟩|⟨y,u,rfl,e⟩
   ·exact nomatch e
   ·injection e with e1 _;rw[e1]
 byValue:=fun k v h=>by
  rcases BF h with⟨i,t,rfl,rfl⟩|⟨x,t,rfl,rfl⟩<;>rfl
 pyHash:=fun hv h=>by
  rcases BF hv with⟨i,t,rfl,rfl⟩|⟨x,t,rfl,rfl⟩
  ·exact wpAny_pyHash_int h
  ·exact wpAny_pyHash_str h
 eqBool:=fun hu hv h=>by
  rcases BF hu with⟨i,t,rfl,rfl⟩|⟨x,t,rfl,rfl⟩
  ·rcases BF hv with⟨j,u,rfl,rfl⟩|⟨y,u,rfl,rfl⟩
   ·rw[b8]at h;exact wpAny_eqBool_int h
   ·rw[bE]at h;exact SeqAt.EqAt.int_str i t y u _ _ _ _ h
  ·rcases BF hv with⟨j,u,rfl,rfl⟩|⟨y,u,rfl,rfl⟩
   ·rw[cc]at h;exact SeqAt.EqAt.str_int x t j u _ _ _ _ h
   ·rw[ay]at h;exact wpAny_eqBool_str h
 «strs»:=fun k x t v h=>by
  rcases BF h with⟨i,u,rfl,e⟩|⟨y,u,rfl,e⟩
  ·exact nomatch e
  ·injection e with e1 _
   subst e1
   cases v<;>rfl
inductive V where
 |non|bl (b:Bool)|int (i:Int)|str (x:Str)|byt (b:Array UInt8)|flt (b:UInt64)|ref (a:Addr)|ty (n:String)
 deriving DecidableEq
def RelV:V->Value->Prop
 |.non,u=>u=Value.none
 |.bl b,u=>u=Value.bool b
 |.int i,u=>∃t,u=Value.int i t
 |.str x,u=>∃t,u=Value.str x t
 |.byt b,u=>∃t,u=Value.bytes b t
 |.flt b,u=>∃t,u=Value.float b t
 |.ref a,u=>u=Value.ref a
 |.ty n,u=>u=Value.type n
abbrev Vals:List V->List Value->Prop:=Paired RelV
theorem Vals.length{xs:List V}{us:List Value}(r:Vals xs us):xs.length=us.length:=Paired.length r
theorem Vals.get:∀{xs:List V}{us:List Value}{i:Nat}{x:V},Vals xs us->xs[i]?=some x->∃u,us[i]?=some u/\RelV x u
 |_,_,_,_,.nil,e=>by simp at e
 |_,_,0,_,.cons r _,e=>by simp at e;subst e;exact⟨_,rfl,r⟩
 |_,_,i+1,x,.cons _ t,e=>by
  obtain⟨u,h1,h2⟩:=Vals.get (i:=i) (x:=x) t (by simpa using e);exact⟨u,by simpa using h1,h2⟩
theorem Vals.append:∀{xs ys:List V}{us ws:List Value},Vals xs us->Vals ys ws->Vals (xs++ys) (us++ws)
 |_,_,_,_,.nil,s=>s
 |_,_,_,_,.cons r t,s=>.cons r (Vals.append t s)
theorem Vals.take:∀{xs:List V}{us:List Value}(n:Nat),Vals xs us->Vals (xs.take n) (us.take n)
 |_,_,0,_=>.nil
 |_,_,_+1,.nil=>.nil
 |_,_,n+1,.cons r t=>.cons r (Vals.take n t)
theorem Vals.drop:∀{xs:List V}{us:List Value}(n:Nat),Vals xs us->Vals (xs.drop n) (us.drop n)
 |_,_,0,r=>r
 |_,_,_+1,.nil=>.nil
 |_,_,n+1,.cons _ t=>Vals.drop n t
def cV:Option V->Option Value->Prop
 |some v,some u=>RelV v u
 |none,none=>True
 |_,_=>False
def KV{κ:Type}:List (κ×V)->List (κ×Value)->Prop:=Paired fun(p:κ×V)(q:κ×Value)=>p.1=q.1/\RelV p.2 q.2
def kV:Key->V
 |.inl i=>.int i
 |.inr x=>.str x
inductive HO where
  |lst (xs:List V)
  |tup (xs:List V)
  |dK (Ad:List (Key×V))|dT (Ad:List (List Key×V))
  |set (S:Int->Bool) (n:Nat)
  |ins (C dx:Addr) (fs:List (Str×V))
  |own (x:Addr)
  |xd (fs:List (Str×V))
  |met (f x:Addr)
  |rng (lo hi:Int)
  |frz (o:Obj) (u:HO)
  |tbl (ps:Array Value)
  |ext (φ:Heap->Prop)
abbrev Hp:=Addr->Option HO
def upd(H:Hp)(a:Addr)(o:HO):Hp:=fun b=>if b=a then some o else H b
theorem Ax{H:Hp}{a:Addr}{o:HO}:upd H a o a=some o:=by unfold upd;rw[if_pos rfl]
theorem AR{H:Hp}{a b:Addr}{o:HO}(h:b≠a):upd H a o b=H b:=by unfold upd;rw[if_neg h]
theorem Ab{H:Hp}{a b:Addr}{o:HO}(h:H a=some o)(h':H b=none):a≠b:=by intro e;subst e;rw[h]at h';cases h'
section
variable (P:Program)(w:World)
def ObjOk(H:Hp)(h:Heap)(a:Addr):HO->Prop
 |.lst xs=>xs.length<=sizeLine/\∃(AO:List Value)(n:Nat),Vals xs AO/\h.get? a=some { cls:=.type "list",data:=.seq AO.toArray n }
 |.tup xs=>xs.length<=sizeLine/\∃AO:List Value,Vals xs AO/\IsTup h a AO.toArray
 |.dK Ad=>Ad.length<=sizeLine/\(a==sysModules)=false/\∃vs,KV Ad vs/\h.DictOf (Mo P w) a vs
 |.dT Ad=>Ad.length<=sizeLine/\(a==sysModules)=false/\∃xs:List (List Key×Addr×Value),
   Paired (fun(p:List Key×V)(q:List Key×Addr×Value)=>p.1=q.1/\H q.2.1=some (.tup (p.1.map kV))/\RelV p.2 q.2.2) Ad xs ∧
   ∃o es ep,h.get? a=some o/\o.ExactDict/\o.data=.dict es ep/\es.toList=xs.map (entryOfKey (tupleKind (Mo P w)))/\(xs.map (·.1)).Nodup
 |.set S n=>h.SetOf (intKind P w) a S n
 |.ins C dx fs=>H dx=some (.own a)/\fs.length<=1000/\dx≠a/\h.get? a=some (PySem.W.instObj C dx) ∧
   ∃mA,h.Ns1 dx mA/\(∀f,cV (fs.lookup f) (mA f))/\PySem.Within mA (fs.map (·.1))
 |.own _=>∃o,h.get? a=some o
 |.xd fs=>∃mA,h.Ns1 a mA/\∀f,cV (fs.lookup f) (mA f)
 |.rng lo hi=>∃t u v,h.get? a=some { cls:=.type "range",data:=.fields #[.int lo t,.int hi u,.int 1 v] }
 |.frz o u=>h.get? a=some o/\ObjOk H h a u
 |.tbl ps=>h.get? a=some { cls:=.none,data:=.fields ps }
 |.met f x=>h.get? a=some (PySem.W.methodObj (.ref f) (.ref x))
 |.ext φ=>φ h/\(∃o,h.get? a=some o)/\∀h1 h2:Heap,φ h1->(∀o,h1.get? a=some o->h2.get? a=some o)->φ h2
def HOk(H:Hp)(h:Heap):Prop:=∀a o,H a=some o->ObjOk P w H h a o
end
section
variable {P:Program}{w:World}{H H':Hp}{h h':Heap}{a:Addr}{o:HO}
theorem ObjOk.lt(x:ObjOk P w H h a o):a<h.objs.size:=by
 cases o with
 |lst xs=>obtain⟨_,_,_,_,e⟩:=x;exact Heap.lt_size e
 |tup xs=>obtain⟨_,_,_,p⟩:=x;exact p.lt
 |dK Ad=>obtain⟨_,_,_,_,o,_,_,e,_⟩:=x;exact Heap.lt_size e
 |dT Ad=>obtain⟨_,_,_,_,o,_,_,e,_⟩:=x;exact Heap.lt_size e
 |set S n=>obtain⟨o,_,_,_,e,_⟩:=x;exact Heap.lt_size e
 |ins C dx fs=>obtain⟨_,_,_,e,_⟩:=x;exact Heap.lt_size e
 |own y=>obtain⟨_,e⟩:=x;exact Heap.lt_size e
 |xd fs=>obtain⟨_,⟨_,_,_,e,_⟩,_⟩:=x;exact Heap.lt_size e
 |rng lo hi=>obtain⟨_,_,_,e⟩:=x;exact Heap.lt_size e
 |frz ob u=>obtain⟨e,_⟩:=x;exact Heap.lt_size e
 |tbl ps=>exact Heap.lt_size (show h.get? a=some _ from x)
 |met f y=>exact Heap.lt_size (show h.get? a=some _ from x)
 |ext φ=>obtain⟨_,⟨_,e⟩,_⟩:=x;exact Heap.lt_size e
theorem Paired.mapP{α β:Type}{F G:α->β->Prop}:∀{l₁:List α}{l₂:List β},Paired F l₁ l₂->(∀a b,F a b->G a b)->Paired G l₁ l₂
 |_,_,.nil,_=>.nil
 |_,_,.cons r t,f=>.cons (f _ _ r) (Paired.mapP t f)
theorem ObjOk.stay(x:ObjOk P w H h a o)(k:∀b u,(b=a\/H b=some (.own a))->h.get? b=some u->h'.get? b=some u)(ho:∀b,H b=some (.own a)->H' b=some (.own a))(ht:∀b xs,H b=some (.tup xs)->H' b=some (.tup xs)):ObjOk P w H' h' a o:=by
 induction o with
 |lst xs=>obtain⟨z,AO,n,r,e⟩:=x;exact⟨z,AO,n,r,k _ _ (.inl rfl) e⟩
 |tup xs=>obtain⟨z,AO,r,ob,e,c⟩:=x;exact⟨z,AO,r,ob,k _ _ (.inl rfl) e,c⟩
 |dK Ad=>obtain⟨z,y,vs,r,ob,es,ep,e,c⟩:=x;exact⟨z,y,vs,r,ob,es,ep,k _ _ (.inl rfl) e,c⟩
 |dT Ad=>
  obtain⟨z,y,xs,r,ob,es,ep,e,c⟩:=x;exact⟨z,y,xs,Paired.mapP r fun p q z=>⟨z.1,ht _ _ z.2.1,z.2.2⟩,ob,es,ep,k _ _ (.inl rfl) e,c⟩
 |set S n=>obtain⟨ob,es,ep,t,e,c⟩:=x;exact⟨ob,es,ep,t,k _ _ (.inl rfl) e,c⟩
 |ins C dx fs=>
  obtain⟨d,z,ne,e,mA,⟨od,es,ep,e2,c⟩,r⟩:=x;exact⟨ho _ d,z,ne,k _ _ (.inl rfl) e,mA,⟨od,es,ep,k _ _ (.inr d) e2,c⟩,r⟩
 |own y=>obtain⟨ob,e⟩:=x;exact⟨ob,k _ _ (.inl rfl) e⟩
 |xd fs=>obtain⟨mA,⟨od,es,ep,e,c⟩,r⟩:=x;exact⟨mA,⟨od,es,ep,k _ _ (.inl rfl) e,c⟩,r⟩
 |rng lo hi=>obtain⟨t,u,v,e⟩:=x;exact⟨t,u,v,k _ _ (.inl rfl) e⟩
 |frz ob u ih=>obtain⟨e,q⟩:=x;exact⟨k _ _ (.inl rfl) e,ih q⟩
 |tbl ps=>
  have e:h.get? a=some { cls:=.none,data:=.fields ps }:=x;show h'.get? a=some { cls:=.none,data:=.fields ps };exact k a _ (.inl rfl) e
 |met f y=>
  have e:h.get? a=some (PySem.W.methodObj (.ref f) (.ref y)):=x;show h'.get? a=some (PySem.W.methodObj (.ref f) (.ref y));exact k a _ (.inl rfl) e
 |ext φ=>obtain⟨p,⟨o,e⟩,st⟩:=x;exact⟨st _ _ p fun o q=>k _ _ (.inl rfl) q,⟨o,k _ _ (.inl rfl) e⟩,st⟩
theorem HOk.lt(x:HOk P w H h)(e:H a=some o):a<h.objs.size:=(x a o e).lt
theorem HOk.fresh(x:HOk P w H h)(e:h.objs.size<=a):H a=none:=by
 cases q:H a with
 |none=>rfl
 |some u=>exact absurd (Nat.lt_of_lt_of_le (x.lt q) e) (Nat.lt_irrefl _)
theorem HOk.kept(x:HOk P w H h)(k:∀b u,h.get? b=some u->h'.get? b=some u):HOk P w H h':=fun a o e=>
 (x a o e).stay (fun b u _ q=>k b u q) (fun _ q=>q) fun _ _ q=>q
theorem HOk.laid(x:HOk P w H h)(k:∀b u,h.get? b=some u->h'.get? b=some u)(hp:h.objs.size<=a)(new:ObjOk P w (upd H a o) h' a o):HOk P w (upd H a o) h':=fun b u e=>by
 have hn:=x.fresh hp;by_cases hb:b=a
 ·subst hb;rw[Ax]at e;cases e;exact new
 ·rw[AR hb]at e;exact(x b u e).stay (fun c v _ q=>k c v q) (fun c q=>by rw[AR (Ab q hn)];exact q) fun c xs q=>by rw[AR (Ab q hn)];exact q
end
def Rd(H:Hp)(a:Addr)(u:HO):Prop:=H a=some u\/∃o,H a=some (.frz o u)
theorem Rd.ok{P:Program}{w:World}{H:Hp}{h:Heap}{a:Addr}{u:HO}(r:Rd H a u)(x:HOk P w H h):ObjOk P w H h a u:=by
 rcases r with r|⟨o,r⟩
 ·exact x a u r
 ·obtain⟨_,q⟩:=x a _ r;exact q
def Mut:Option HO->Prop
 |some (.lst _)=>True
 |some (.dK _)=>True
 |some (.dT _)=>True
 |some (.set _ _)=>True
 |some (.ins _ _ _)=>True
 |some (.ext _)=>True
 |_=>False
section
variable {P:Program}{w:World}{H:Hp}{h h':Heap}{x e:Addr}{o':HO}
theorem HOk.write(ok:HOk P w H h)(mu:Mut (H x))(he:e=x\/H e=some (.own x))(k:∀b u,b≠e->h.get? b=some u->h'.get? b=some u)(dR:∃u,h'.get? e=some u)(new:ObjOk P w (upd H x o') h' x o'):HOk P w (upd H x o') h':=fun b u q=>by
 have fv:∀c y,H c=some (.own y)->c≠x:=fun c y r z=>by subst z;rw[r]at mu;exact mu
 have jn:∀c xs,H c=some (.tup xs)->c≠x:=fun c xs r z=>by subst z;rw[r]at mu;exact mu
 by_cases hb:b=x
 ·subst hb;rw[Ax]at q;cases q;exact new
 ·rw[AR hb]at q;by_cases hbe:b=e
  ·have q':H b=some (.own x):=by
    rcases he with z|z
    ·exact absurd (hbe.trans z) hb
    ·rw[hbe];exact z
   rw[q]at q';cases q';obtain⟨v,hv⟩:=dR;exact⟨v,by rw[hbe];exact hv⟩
  ·refine(ok b u q).stay (fun c v hc r=>k c v ?_ r) (fun c r=>by rw[AR (fv c b r)];exact r) fun c xs r=>by rw[AR (jn c xs r)];exact r
   rcases hc with rfl|hc
   ·exact hbe
   ·rintro rfl;rcases he with z|z
    ·exact fv c b hc z
    ·rw[hc]at z;cases z;exact hb rfl
end
structure Un (fs ex:List Addr) (H H':Hp) (h h':Heap):Prop where
 keep:∀b o,h.get? b=some o->H b=none->b∉fs->b∉ex->h'.get? b=some o
 slot:∀b o,h.get? b=some o->H b=none->b∈fs->b∉ex->∃sl,h'.get? b=some { o with slots:=sl }
 free:∀b o,h.get? b=some o->H b=none->b∉ex->H' b=none
 there:∀b o,h.get? b=some o->b∉ex->∃o',h'.get? b=some o'
 tups:∀b xs,H b=some (.tup xs)->H' b=some (.tup xs)
 frzs:∀b o u,H b=some (.frz o u)->H' b=some (.frz o u)
 tbls:∀b ps,H b=some (.tbl ps)->∃more,H' b=some (.tbl (ps++more))
section
variable {fs rE ex rq:List Addr}{H H1 H2:Hp}{h h1 h2 h':Heap}{a x e:Addr}{o:HO}
theorem Un.any(u:Un fs ex H H1 h h1){b:Addr}{ob:Obj}(q:h.get? b=some ob)(n:H b=none)(hx:b∉ex):∃sl,h1.get? b=some { ob with slots:=sl }:=by
 by_cases hb:b∈fs
 ·exact u.slot b ob q n hb hx
 ·exact⟨ob.slots,u.keep b ob q n hb hx⟩
theorem Un.trans(a:Un fs ex H H1 h h1)(b:Un fs ex H1 H2 h1 h2):Un fs ex H H2 h h2 where
 keep:=fun c ob q n hc hx=>b.keep c ob (a.keep c ob q n hc hx) (a.free c ob q n hx) hc hx
 slot:=fun c ob q n hc hx=>by
  obtain⟨sl,e1⟩:=a.slot c ob q n hc hx;obtain⟨fO,e2⟩:=b.slot c _ e1 (a.free c ob q n hx) hc hx;exact⟨fO,e2⟩
 free:=fun c ob q n hx=>by
  obtain⟨o',e1⟩:=a.there c ob q hx;exact b.free c o' e1 (a.free c ob q n hx) hx
 there:=fun c ob q hx=>by
  obtain⟨o',e1⟩:=a.there c ob q hx;exact b.there c o' e1 hx
 tups:=fun c xs q=>b.tups c xs (a.tups c xs q)
 frzs:=fun c ob xs q=>b.frzs c ob xs (a.frzs c ob xs q)
 tbls:=fun c ps q=>by
  obtain⟨m1,e1⟩:=a.tbls c ps q;obtain⟨m2,e2⟩:=b.tbls c _ e1;exact⟨m1++m2,by rw[e2,Array.append_assoc]⟩
theorem Un.kept(k:∀b u,h.get? b=some u->h'.get? b=some u):Un fs ex H H h h':=⟨fun b ob q _ _ _=>k b ob q,fun b ob q _ _ _=>⟨ob.slots,k b ob q⟩,fun _ _ _ n _=>n,fun b ob q _=>⟨ob,k b ob q⟩,fun _ _ q=>q,fun _ _ _ q=>q,fun _ ps q=>⟨#[],by rw[q];simp⟩⟩
theorem Un.refl:Un fs ex H H h h:=Un.kept fun _ _ q=>q
theorem Un.laid(k:∀b u,h.get? b=some u->h'.get? b=some u)(hp:h.objs.size<=a)(hn:H a=none):Un fs ex H (upd H a o) h h' where
 keep:=fun b u q _ _ _=>k b u q
 slot:=fun b u q _ _ _=>⟨u.slots,k b u q⟩
 free:=fun b u q n _=>by rw[AR (Nat.ne_of_lt (Nat.lt_of_lt_of_le (Heap.lt_size q) hp))];exact n
 there:=fun b u q _=>⟨u,k b u q⟩
 tups:=fun b xs q=>by rw[AR (Ab q hn)];exact q
 frzs:=fun b u xs q=>by rw[AR (Ab q hn)];exact q
 tbls:=fun b ps q=>⟨#[],by rw[AR (Ab q hn),q];simp⟩
theorem Un.write(mu:Mut (H x))(he:e=x\/H e=some (.own x))(k:∀b u,b≠e->h.get? b=some u->h'.get? b=some u)(dR:∃u,h'.get? e=some u):Un fs ex H (upd H x o) h h':=by
 have hx:∀b,H b=none->b≠x:=fun b n z=>by subst z;rw[n]at mu;exact mu
 have hb:∀b,H b=none->b≠e:=fun b n z=>by
  subst z;rcases he with r|r
  ·exact hx b n r
  ·rw[n]at r;cases r
 have hm:∀b u,H b=some u->¬Mut (some u)->b≠x:=fun b u q nm z=>by subst z;rw[q]at mu;exact nm mu
 refine⟨fun b u q n _ _=>k b u (hb b n) q,fun b u q n _ _=>⟨u.slots,k b u (hb b n) q⟩,fun b u q n _=>by rw[AR (hx b n)];exact n,fun b u q _=>?_,
  fun b xs q=>by rw[AR (hm b _ q fun z=>z)];exact q,fun b u xs q=>by rw[AR (hm b _ q fun z=>z)];exact q,fun b ps q=>⟨#[],by rw[AR (hm b _ q fun z=>z),q];simp⟩⟩
 by_cases hbe:b=e
 ·subst hbe;exact dR
 ·exact⟨u,k b u hbe q⟩
end
def trk(h:Heap)(H:Hp):List Addr:=(List.range h.objs.size).filter fun a=>(H a).isSome
def M3(h:Heap)(H:Hp):Heap:=PySem.W.hideAll h (trk h H)
theorem UD(h:Heap)(H:Hp):(M3 h H).objs.size=h.objs.size:=PySem.W.hideAll_size _ _
theorem Vr{h:Heap}{H:Hp}{b:Addr}{o:Obj}(e:h.get? b=some o)(n:H b=none):(M3 h H).get? b=some o:=PySem.W.hideAll_get _ e fun hm=>by
  have q:(H b).isSome=true:=(List.mem_filter.mp hm).2;rw[n]at q;simp at q
theorem YD{h:Heap}{H:Hp}{b:Addr}{o:Obj}(e:(M3 h H).get? b=some o):h.get? b=some o/\H b=none:=by
 have e':h.get? b=some o:=PySem.W.of_hideAll (trk h H) e;refine⟨e',?_⟩;cases q:H b with
 |none=>rfl
 |some x=>
  have hm:b∈trk h H:=List.mem_filter.mpr ⟨List.mem_range.mpr (Heap.lt_size e'),by simp[q]⟩;have z:(M3 h H).get? b=none:=PySem.W.hideAll_none (trk h H) hm;rw[z]at e;cases e
structure Mod (K:PySem.W.Frag) (mg:Str->Option Value) (base:Heap):Prop where
 kin:K.In base
 glob:base.Ns mainGlobals mg
 blt:∃mb,base.Ns builtinsNs mb/\∀x:Str,x≠"__name__"->mb x=bootBuiltins x
 nolimit:base.NoLimit
structure Cx where
 prog:Program
 w:World
 K:PySem.W.Frag
 mg:Str->Option Value
 base:Heap
 A:Around
 N:List Str
 s₀:Shared
 H₀:Hp
 env:Env
 outer:List Env
 stack:List Env
 ex:List Addr
 fn:Str->Bool
 calm:Bool
 pn:List (Addr×Obj)
 xe:Value->Shared->Prop
def frs(l:List Env):List Addr:=l.filterMap (·.frame)
abbrev Cx.fs(X:Cx):List Addr:=frs X.outer
def Vis(sc:Scope)(x:Str):Prop:=sc.names.lookup x=some .local\/sc.names.lookup x=some .cell\/sc.names.lookup x=some .free
def Loc(sc:Scope)(x:Str):Prop:=sc.names.lookup x=some .local\/sc.names.lookup x=some .cell
def kR(env:Env)(h:Heap)(m:Str->Option Value)(x:Str)(u:Value):Prop:=(env.kindOf x=some .local/\m x=some u)\/((env.kindOf x=some .cell\/env.kindOf x=some .free)/\∃c,env.cells.lookup x=some c/\h.IsCell c (some u))
structure Cx.Ok (X:Cx):Prop where
 mod:Mod X.K X.mg X.base
 kind:X.env.scope.kind=.function
 glob:X.env.globals=mainGlobals
 blt:X.env.builtins=builtinsNs
 above:X.s₀.heap.objs.size<=X.env.locals
 inj:∀x y c,X.env.cells.lookup x=some c->X.env.cells.lookup y=some c->x=y
 has:∀x,(X.env.kindOf x=some .cell\/X.env.kindOf x=some .free)->∃c,X.env.cells.lookup x=some c
 cab:∀x c,X.fn x=true->X.env.cells.lookup x=some c->X.s₀.heap.objs.size<=c
 hd:X.calm=true->X.A.handled=none
 frames:X.A.frames=some X.stack
 stk:X.stack=X.outer\/(X.stack=X.env::X.outer/\X.env.frame=some X.env.locals)
 exf:∀b∈X.ex,b≠X.env.locals/\∀x c,X.env.cells.lookup x=some c->c≠b
 bs:∀b o,X.base.get? b=some o->X.s₀.heap.get? b=some o/\X.H₀ b=none
 bsz:X.base.objs.size<=X.s₀.heap.objs.size
 noex:∀b o,X.base.get? b=some o->b∉X.ex
 exfs:∀b∈X.ex,b∉X.fs
 funs:X.s₀.heap.FunFrames X.base X.outer
 frf:∀b∈X.fs,X.H₀ b=none
structure Inv (X:Cx) (AD:List (Addr×Obj)) (σ:List (Option V)) (H:Hp) (s:Shared):Prop where
 ok:X.Ok
 os:s.os=X.s₀.os
 bare:AllBare s.gens
 base:Un X.fs X.ex X.H₀ H X.s₀.heap s.heap
 loc:∃m,s.heap.Ns X.env.locals m/\∀(i:Nat)(x:Str)(v:V),X.N[i]?=some x->σ[i]?=some (some v)->Vis X.env.scope x->∃u,RelV v u/\kR X.env s.heap m x u
 cell:∀x c,X.env.cells.lookup x=some c->∃v,s.heap.IsCell c v
 free:H X.env.locals=none
 freeC:∀x c,X.env.cells.lookup x=some c->H c=none
 pin:∀p∈X.pn++AD,s.heap.get? p.1=some p.2/\H p.1=none/\p.1≠X.env.locals/\p.1∉X.fs/\∀v,p.2.data≠.cell v
 hok:HOk X.prog X.w H s.heap
 len:σ.length=X.N.length
section
variable {X:Cx}{AD:List (Addr×Obj)}{σ:List (Option V)}{H H':Hp}{s:Shared}{h':Heap}
theorem Cx.Ok.nofr(ok:X.Ok){b:Addr}{o:Obj}(e:X.base.get? b=some o):b∉X.fs:=fun hb=>by
 have:=(ok.funs.mem hb).1
 rw[e]at this;cases this
theorem Inv.bs(I:Inv X AD σ H s):∀b o,X.base.get? b=some o->s.heap.get? b=some o/\H b=none:=fun b o e=>
 ⟨I.base.keep b o (I.ok.bs b o e).1 (I.ok.bs b o e).2 (I.ok.nofr e) (I.ok.noex b o e),I.base.free b o (I.ok.bs b o e).1 (I.ok.bs b o e).2 (I.ok.noex b o e)⟩
theorem Inv.bk(I:Inv X AD σ H s):∀b o,X.base.get? b=some o->s.heap.get? b=some o:=fun b o e=>(I.bs b o e).1
theorem Inv.mod(I:Inv X AD σ H s):Mod X.K X.mg X.base:=I.ok.mod
theorem Inv.kIn(I:Inv X AD σ H s):X.K.In s.heap:=I.ok.mod.kin.keeps I.bk
theorem Inv.lt(I:Inv X AD σ H s):X.env.locals<s.heap.objs.size:=let ⟨_,hn,_⟩:=I.loc;hn.lt
theorem Inv.sz(I:Inv X AD σ H s):X.s₀.heap.objs.size<=s.heap.objs.size:=Nat.le_trans I.ok.above (Nat.le_of_lt I.lt)
theorem Inv.nofs(I:Inv X AD σ H s){a:Addr}(h:s.heap.objs.size<=a):a∉X.fs:=fun hb=>by
 obtain⟨_,o,ho,_⟩:=I.ok.funs.mem hb;exact absurd (Nat.lt_of_lt_of_le (Heap.lt_size ho) (Nat.le_trans I.sz h)) (Nat.lt_irrefl _)
theorem Inv.cne(I:Inv X AD σ H s):∀x c,X.env.cells.lookup x=some c->c≠X.env.locals:=fun x c e z=>by
 obtain⟨v,o,ho,hd⟩:=I.cell x c e;obtain⟨m,⟨o',es,ep,MG,eY,_⟩,_⟩:=I.loc;rw[z,MG]at ho;cases ho;rw[eY]at hd;cases hd
theorem Inv.funs(I:Inv X AD σ H s):s.heap.FunFrames X.base X.outer:=by
 have all:∀(l:List Env),(∀b∈frs l,b∈X.fs)->X.s₀.heap.FunFrames X.base l->s.heap.FunFrames X.base l:=by
  intro l
  induction l with
  |nil=>intro _ _;trivial
  |cons env r ih=>
   intro hs hl;obtain⟨hk,⟨L,o,hf,hn,ho,hd⟩,hr⟩:=hl;have hL:L∈X.fs:=hs L (by unfold frs;rw[List.filterMap_cons,hf];exact List.mem_cons_self);obtain⟨sl,e⟩:=I.base.slot L o ho (I.ok.frf L hL) hL fun z=>I.ok.exfs L z hL;exact⟨hk,⟨L,_,hf,hn,e,hd⟩,ih (fun b hb=>hs b (by unfold frs;rw[List.filterMap_cons,hf];exact List.mem_cons_of_mem _ hb)) hr⟩
 exact all X.outer (fun _ hb=>hb) I.ok.funs
theorem Inv.stack(I:Inv X AD σ H s):s.heap.FunFrames X.base X.stack:=by
 rcases I.ok.stk with e|⟨e,hf⟩
 ·rw[e];exact I.funs
 ·rw[e];obtain⟨m,hn,_⟩:=I.loc;refine .cons (by rw[I.ok.kind];decide) hf hn ?_ I.funs;exact Heap.get?_none_of_le (Nat.le_trans I.ok.bsz I.ok.above)
theorem Inv.stkSub(I:Inv X AD σ H s):∀b∈frs X.stack,b∈X.env.locals::X.fs:=fun b hb=>by
 rcases I.ok.stk with e|⟨e,hf⟩
 ·rw[e]at hb;exact List.mem_cons_of_mem _ hb
 ·rw[e]at hb;unfold frs at hb;rw[List.filterMap_cons,hf]at hb;exact hb
theorem Inv.stkFree(I:Inv X AD σ H s):∀b∈frs X.stack,H b=none:=fun b hb=>by
 rcases List.mem_cons.mp (I.stkSub b hb)with e|hb
 ·rw[e];exact I.free
 ·obtain⟨_,o,ho,_⟩:=I.ok.funs.mem hb;exact I.base.free b o ho (I.ok.frf b hb) fun z=>I.ok.exfs b z hb
theorem Inv.step{g':Array GenState}{t':Nat}{d':Drawn}{ch:List Addr}(I:Inv X AD σ H s)(SE:∀b∈ch,(b∈X.ex\/X.s₀.heap.objs.size<=b)/\b≠X.env.locals/\(∀x c,X.env.cells.lookup x=some c->c≠b)/\∀p∈X.pn++AD,p.1≠b)(keep:∀b o,b≠X.env.locals->b∉X.fs->b∉ch->s.heap.get? b=some o->H b=none->h'.get? b=some o)(slot:∀b o,b≠X.env.locals->b∈X.fs->b∉ch->s.heap.get? b=some o->H b=none->∃sl,h'.get? b=some { o with slots:=sl })(free:∀b o,b∉ch->s.heap.get? b=some o->H b=none->H' b=none)(there:∀b o,b∉ch->s.heap.get? b=some o->∃o',h'.get? b=some o')(tups:∀b xs,H b=some (.tup xs)->H' b=some (.tup xs))(frzs:∀b o u,H b=some (.frz o u)->H' b=some (.frz o u))(tbls:∀b ps,H b=some (.tbl ps)->∃more,H' b=some (.tbl (ps++more)))(ns:∀m,s.heap.Ns X.env.locals m->h'.Ns X.env.locals m)(hok:HOk X.prog X.w H' h')(hg:AllBare g') :
  Inv X AD σ H' { s with heap:=h',gens:=g',drawn:=d',toks:=t' }:=by
 have Xg:∀b o,X.s₀.heap.get? b=some o->b≠X.env.locals:=fun b o e=>Nat.ne_of_lt (Nat.lt_of_lt_of_le (Heap.lt_size e) I.ok.above);have h9:∀b o,X.s₀.heap.get? b=some o->b∉X.ex->b∉ch:=fun b o e hx hb=>by
  rcases(SE b hb).1 with z|z
  ·exact hx z
  ·exact absurd (Nat.lt_of_lt_of_le (Heap.lt_size e) z) (Nat.lt_irrefl _)
 have cellK:∀x c,X.env.cells.lookup x=some c->∀v,s.heap.IsCell c v->h'.IsCell c v:=fun x c e v ⟨o,ho,hd⟩=>by
  have PB:c∉ch:=fun z=>(SE c z).2.2.1 x c e rfl;by_cases hc:c∈X.fs
  ·obtain⟨sl,q⟩:=slot c o (I.cne x c e) hc PB ho (I.freeC x c e);exact⟨_,q,hd⟩
  ·exact⟨o,keep c o (I.cne x c e) hc PB ho (I.freeC x c e),hd⟩
 refine⟨I.ok,I.os,hg,⟨fun b o e n hb hx=>?_,fun b o e n hb hx=>?_,fun b o e n hx=>?_,fun b o e hx=>?_,fun b xs e=>tups b xs (I.base.tups b xs e),fun b o xs e=>frzs b o xs (I.base.frzs b o xs e),fun b ps e=>?_⟩,?_,fun x c e=>?_,?_,fun x c e=>?_,fun p hp=>?_,hok,I.len⟩
 ·exact keep b o (Xg b o e) hb (h9 b o e hx) (I.base.keep b o e n hb hx) (I.base.free b o e n hx)
 ·obtain⟨sl,e1⟩:=I.base.slot b o e n hb hx;obtain⟨fO,e2⟩:=slot b _ (Xg b o e) hb (h9 b o e hx) e1 (I.base.free b o e n hx);exact⟨fO,e2⟩
 ·obtain⟨o',e1⟩:=I.base.there b o e hx;exact free b o' (h9 b o e hx) e1 (I.base.free b o e n hx)
 ·obtain⟨o',e1⟩:=I.base.there b o e hx;exact there b o' (h9 b o e hx) e1
 ·obtain⟨m1,e1⟩:=I.base.tbls b ps e;obtain⟨m2,e2⟩:=tbls b _ e1;exact⟨m1++m2,by rw[e2,Array.append_assoc]⟩
 ·obtain⟨m,hn,hl⟩:=I.loc;refine⟨m,ns m hn,fun i x v e1 e2 e3=>?_⟩;obtain⟨u,r,l⟩:=hl i x v e1 e2 e3;refine⟨u,r,?_⟩;rcases l with l|⟨k,c,e,z⟩
  ·exact .inl l
  ·exact .inr ⟨k,c,e,cellK x c e _ z⟩
 ·obtain⟨v,z⟩:=I.cell x c e;exact⟨v,cellK x c e v z⟩
 ·obtain⟨m,⟨o,_,_,ho,_⟩,_⟩:=I.loc;exact free _ o (fun z=>(SE _ z).2.1 rfl) ho I.free
 ·obtain⟨v,o,ho,hd⟩:=I.cell x c e;exact free c o (fun z=>(SE c z).2.2.1 x c e rfl) ho (I.freeC x c e)
 ·obtain⟨e,n,ne,nf,d⟩:=I.pin p hp;have PB:p.1∉ch:=fun z=>(SE p.1 z).2.2.2 p hp rfl;exact⟨keep p.1 p.2 ne nf PB e n,free p.1 p.2 PB e n,ne,nf,d⟩
theorem Inv.un{t':Nat}(I:Inv X AD σ H s)(u:Un X.fs [] H H' s.heap h')(hok:HOk X.prog X.w H' h'):Inv X AD σ H' { s with heap:=h',toks:=t' }:=by
 obtain⟨m,⟨o,es,ep,ho,r⟩,_⟩:=id I.loc;obtain⟨sl,hL⟩:=u.any ho I.free (by simp);exact I.step (g':=s.gens) (d':=s.drawn) (ch:=[]) (fun _ z=>nomatch z) (fun b o _ hb _ e n=>u.keep b o e n hb (by simp)) (fun b o _ hb _ e n=>u.slot b o e n hb (by simp)) (fun b o _ e n=>u.free b o e n (by simp)) (fun b o _ e=>u.there b o e (by simp)) u.tups u.frzs u.tbls (fun m' hm=>by
  obtain⟨o',GU,TR,MG,r'⟩:=hm;rw[ho]at MG;cases MG;exact⟨_,GU,TR,hL,r'⟩) hok I.bare
theorem Inv.call{g':Array GenState}{t':Nat}{d':Drawn}{ch:List Addr}(I:Inv X AD σ H s)(u:Un (frs X.stack) ch H H' s.heap h')(hok:HOk X.prog X.w H' h')(hg:AllBare g')(SE:∀b∈ch,(b∈X.ex\/X.s₀.heap.objs.size<=b)/\b≠X.env.locals/\(∀x c,X.env.cells.lookup x=some c->c≠b)/\∀p∈X.pn++AD,p.1≠b) :
  Inv X AD σ H' { s with heap:=h',gens:=g',drawn:=d',toks:=t' }:=by
 obtain⟨m,⟨o,es,ep,ho,r⟩,_⟩:=id I.loc;obtain⟨sl,hL⟩:=u.any ho I.free fun z=>(SE _ z).2.1 rfl;exact I.step (ch:=ch) SE (fun b o hL hb hc e n=>u.keep b o e n (fun z=>(List.mem_cons.mp (I.stkSub b z)).elim hL hb) hc) (fun b o _ _ hc e n=>u.any e n hc) (fun b o hc e n=>u.free b o e n hc) (fun b o hc e=>u.there b o e hc) u.tups u.frzs u.tbls (fun m' hm=>by
  obtain⟨o',GU,TR,MG,r'⟩:=hm;rw[ho]at MG;cases MG;exact⟨_,GU,TR,hL,r'⟩) hok hg
theorem Inv.turned{t':Nat}{it:Addr}(I:Inv X AD σ H s)(k:∀b o,b≠it->s.heap.get? b=some o->h'.get? b=some o)(hn:H it=none)(hL:it≠X.env.locals)(h1:it∈X.ex\/X.s₀.heap.objs.size<=it)(h2:∀x c,X.env.cells.lookup x=some c->c≠it)(h3:∀p∈X.pn++AD,p.1≠it):Inv X AD σ H { s with heap:=h',toks:=t' }:=by
 have dO:∀b u,H b=some u->b≠it:=fun b u e z=>by rw[z,hn]at e;cases e
 refine I.step (g':=s.gens) (d':=s.drawn) (ch:=[it]) (fun b hb=>?_) (fun b o _ _ hc e _=>k b o (fun z=>hc (by simp[z])) e) (fun b o _ _ hc e _=>⟨o.slots,k b o (fun z=>hc (by simp[z])) e⟩) (fun _ _ _ _ n=>n)
  (fun b o hc e=>⟨o,k b o (fun z=>hc (by simp[z])) e⟩) (fun _ _ e=>e) (fun _ _ _ e=>e) (fun b ps e=>⟨#[],by rw[e];simp⟩) (fun m hm=>?_) (fun b u e=>?_) I.bare
 ·have e:b=it:=by simpa using hb
  subst e;exact⟨h1,hL,h2,h3⟩
 ·obtain⟨o,es,ep,ho,r⟩:=hm;exact⟨o,es,ep,k _ o (Ne.symm hL) ho,r⟩
 ·refine(I.hok b u e).stay (fun c v hc q=>k c v ?_ q) (fun _ q=>q) fun _ _ q=>q;rcases hc with z|z
  ·rw[z];exact dO b u e
  ·exact dO c _ z
theorem Inv.tok(I:Inv X AD σ H s)(t:Nat):Inv X AD σ H { s with toks:=t }:=I.un (h':=s.heap) (t':=t) Un.refl I.hok
theorem Inv.kept{t':Nat}(I:Inv X AD σ H s)(k:∀b u,s.heap.get? b=some u->h'.get? b=some u):Inv X AD σ H { s with heap:=h',toks:=t' }:=I.un (Un.kept k) (I.hok.kept k)
theorem Inv.laid{a:Addr}{o:HO}{t':Nat}(I:Inv X AD σ H s)(k:∀b u,s.heap.get? b=some u->h'.get? b=some u)(hp:s.heap.objs.size<=a)(new:ObjOk X.prog X.w (upd H a o) h' a o) :
  Inv X AD σ (upd H a o) { s with heap:=h',toks:=t' }:=I.un (Un.laid k hp (I.hok.fresh hp)) (I.hok.laid k hp new)
theorem Inv.write{x e:Addr}{o:HO}{t':Nat}(I:Inv X AD σ H s)(mu:Mut (H x))(he:e=x\/H e=some (.own x))(k:∀b u,b≠e->s.heap.get? b=some u->h'.get? b=some u)(dR:∃u,h'.get? e=some u)(new:ObjOk X.prog X.w (upd H x o) h' x o):Inv X AD σ (upd H x o) { s with heap:=h',toks:=t' }:=I.un (Un.write mu he k dR) (I.hok.write mu he k dR new)
theorem Inv.pins_of{ag:List (Addr×Obj)}(I:Inv X AD σ H s)(h:∀p∈ag,s.heap.get? p.1=some p.2/\H p.1=none/\p.1≠X.env.locals/\p.1∉X.fs/\∀v,p.2.data≠.cell v):Inv X ag σ H s:=⟨I.ok,I.os,I.bare,I.base,I.loc,I.cell,I.free,I.freeC,fun p hp=>(List.mem_append.mp hp).elim (fun z=>I.pin p (List.mem_append_left _ z)) (h p),I.hok,I.len⟩
theorem Pt{N:List Str}(hN:N.Nodup){i j:Nat}{x:Str}(a:N[i]?=some x)(b:N[j]?=some x):i=j:=by obtain⟨h1,e1⟩:=List.getElem?_eq_some_iff.mp a;obtain⟨h2,e2⟩:=List.getElem?_eq_some_iff.mp b;exact(List.getElem_inj hN).mp (e1.trans e2.symm)
theorem Ly{M:Model}{A:Around}{E:Value->Shared->Prop}{i:Nat}{x:Str}{v:V}{u:Value}{Q:Unit->Shared->Prop}(I:Inv X AD σ H s)(hN:X.N.Nodup)(hi:X.N[i]?=some x)(hx:Loc X.env.scope x)(r:RelV v u)(h:∀s',Inv X AD (σ.set i (some v)) H s'->(∃a,Heap.SameBut a s.heap s'.heap/\(a=X.env.locals\/X.env.cells.lookup x=some a))->Q () s')(hf:X.fn x=true\/X.env.scope.names.lookup x=some .local:=by first|exact .inl rfl|exact .inr rfl|assumption):wpAny M A (storeName X.env x u) Q E s:=by
 obtain⟨m,hn,hl⟩:=id I.loc;have Wm:(X.env.scope.kind==.class||(X.env.scope.kind==.module&&X.env.locals != X.env.globals))=false:=by rw[I.ok.kind];rfl
 have hiσ:i<σ.length:=by rw[I.len];exact(List.getElem?_eq_some_iff.mp hi).1
 have cne:=I.cne;have tracked:∀{a:Addr}{h':Heap},(∃o,s.heap.get? a=some o/\H a=none)->Heap.SameBut a s.heap h'->HOk X.prog X.w H h':=fun {a h'} ha hs b ob e=>by
  obtain⟨_,_,Ll⟩:=ha;refine(I.hok b ob e).stay (fun c w' hc q=>(hs.2 c ?_).trans q) (fun _ q=>q) fun _ _ q=>q;rintro rfl;rcases hc with rfl|hc
  ·rw[Ll]at e;cases e
  ·rw[Ll]at hc;cases hc
 rcases hx with hk|hk
 ·refine wpAny_storeName_local hk hn (fun h' TV hs=>?_) Wm;obtain⟨oL,_,_,UX,_⟩:=id hn;refine h _ ⟨I.ok,I.os,I.bare,⟨fun b o e n hb hx=>?_,fun b o e n hb hx=>?_,I.base.free,fun b o e hx=>?_,I.base.tups,I.base.frzs,I.base.tbls⟩,⟨_,TV,fun j y v' e1 e2 e3=>?_⟩,fun y c e=>?_,I.free,I.freeC,fun p hp=>?_,tracked ⟨oL,UX,I.free⟩ hs,by simpa using I.len⟩ ⟨_,hs,.inl rfl⟩
  ·exact(hs.2 b (Nat.ne_of_lt (Nat.lt_of_lt_of_le (Heap.lt_size e) I.ok.above))).trans (I.base.keep b o e n hb hx)
  ·obtain⟨sl,e1⟩:=I.base.slot b o e n hb hx;exact⟨sl,(hs.2 b (Nat.ne_of_lt (Nat.lt_of_lt_of_le (Heap.lt_size e) I.ok.above))).trans e1⟩
  ·obtain⟨o',e1⟩:=I.base.there b o e hx;exact⟨o',(hs.2 b (Nat.ne_of_lt (Nat.lt_of_lt_of_le (Heap.lt_size e) I.ok.above))).trans e1⟩
  ·by_cases hj:j=i
   ·subst hj;rw[hi]at e1;cases e1;rw[List.getElem?_set_self hiσ]at e2;cases e2;exact⟨u,r,.inl ⟨hk,by simp⟩⟩
   ·rw[List.getElem?_set_ne (Ne.symm hj)]at e2;obtain⟨u',r',q⟩:=hl j y v' e1 e2 e3;refine⟨u',r',?_⟩;rcases q with⟨k,e⟩|⟨k,c,e,z⟩
    ·refine .inl ⟨k,?_⟩;have:y≠x:=fun e=>hj (Pt hN e1 (e▸hi));simp[this,e]
    ·exact .inr ⟨k,c,e,z.sameBut hs (cne y c e)⟩
  ·obtain⟨w',z⟩:=I.cell y c e;exact⟨w',z.sameBut hs (cne y c e)⟩
  ·obtain⟨e,n,ne,nf,d⟩:=I.pin p hp;exact⟨(hs.2 p.1 ne).trans e,n,ne,nf,d⟩
 ·have fB:X.fn x=true:=by
   rcases hf with z|z
   ·exact z
   ·rw[z]at hk;cases hk
  obtain⟨c,hc⟩:=I.ok.has x (.inl hk);obtain⟨w',z⟩:=I.cell x c hc;refine wpAny_storeName_cell I.ok.kind hk hc z (fun h' Ro hs=>?_);obtain⟨oc,Xi,lR⟩:=id z;refine h { s with heap:=h' } ⟨I.ok,I.os,I.bare,⟨fun b o e n hb hx=>?_,fun b o e n hb hx=>?_,I.base.free,fun b o e hx=>?_,I.base.tups,I.base.frzs,I.base.tbls⟩,⟨m,hn.sameBut hs (Ne.symm (cne x c hc)),fun j y v' e1 e2 e3=>?_⟩,fun y c' e=>?_,I.free,I.freeC,fun p hp=>?_,tracked ⟨oc,Xi,I.freeC x c hc⟩ hs,by simpa using I.len⟩ ⟨c,hs,.inr hc⟩
  ·exact(hs.2 b (Nat.ne_of_lt (Nat.lt_of_lt_of_le (Heap.lt_size e) (I.ok.cab x c fB hc)))).trans (I.base.keep b o e n hb hx)
  ·obtain⟨sl,e1⟩:=I.base.slot b o e n hb hx;exact⟨sl,(hs.2 b (Nat.ne_of_lt (Nat.lt_of_lt_of_le (Heap.lt_size e) (I.ok.cab x c fB hc)))).trans e1⟩
  ·obtain⟨o',e1⟩:=I.base.there b o e hx;exact⟨o',(hs.2 b (Nat.ne_of_lt (Nat.lt_of_lt_of_le (Heap.lt_size e) (I.ok.cab x c fB hc)))).trans e1⟩
  ·by_cases hj:j=i
   ·subst hj;rw[hi]at e1;cases e1;rw[List.getElem?_set_self hiσ]at e2;cases e2;exact⟨u,r,.inr ⟨.inl hk,c,hc,Ro⟩⟩
   ·rw[List.getElem?_set_ne (Ne.symm hj)]at e2;obtain⟨u',r',q⟩:=hl j y v' e1 e2 e3;refine⟨u',r',?_⟩;rcases q with q|⟨k,c',e,z'⟩
    ·exact .inl q
    ·refine .inr ⟨k,c',e,z'.sameBut hs ?_⟩;rintro rfl;exact hj (Pt hN e1 (I.ok.inj _ _ _ e hc▸hi))
  ·by_cases hcc:c'=c
   ·subst hcc;exact⟨_,Ro⟩
   ·obtain⟨w2,z2⟩:=I.cell y c' e;exact⟨w2,z2.sameBut hs hcc⟩
  ·obtain⟨e,n,ne,nf,d⟩:=I.pin p hp;refine⟨(hs.2 p.1 ?_).trans e,n,ne,nf,d⟩;intro q;rw[q,Xi]at e;have q':oc=p.2:=Option.some.inj e;exact d w' (by rw[<-q'];exact lR)
theorem Jp{M:Model}{A:Around}{E:Value->Shared->Prop}{i:Nat}{x:Str}{v:V}{u:Value}{Q:Unit->Shared->Prop}(I:Inv X AD σ H s)(hN:X.N.Nodup)(hi:X.N[i]?=some x)(hx:Loc X.env.scope x)(r:RelV v u)(h:∀s',Inv X AD (σ.set i (some v)) H s'->Q () s')(hf:X.fn x=true\/X.env.scope.names.lookup x=some .local:=by first|exact .inl rfl|exact .inr rfl|assumption):wpAny M A (storeName X.env x u) Q E s:=Ly I hN hi hx r (fun s' I' _=>h s' I') hf
theorem Inv.call'{s':Shared}{ch:List Addr}(I:Inv X AD σ H s)(ho:s'.os=s.os)(u:Un (frs X.stack) ch H H' s.heap s'.heap)(hok:HOk X.prog X.w H' s'.heap)(hg:AllBare s'.gens)(SE:∀b∈ch,(b∈X.ex\/X.s₀.heap.objs.size<=b)/\b≠X.env.locals/\(∀x c,X.env.cells.lookup x=some c->c≠b)/\∀p∈X.pn++AD,p.1≠b):Inv X AD σ H' s':=by obtain⟨h',g',d',t',o'⟩:=s';have e:o'=s.os:=ho;subst e;exact I.call (g':=g') (t':=t') (d':=d') u hok hg SE
end
abbrev XK:=Value->Option Addr->Hp->Prop
abbrev St:=List (Option V)
abbrev VK:=V->Hp->Prop
abbrev TE:=St->Hp->VK->Prop
abbrev TT:=St->Hp->(Bool->Hp->Prop)->Prop
abbrev TA:=St->Hp->(List V->Hp->Prop)->Prop
structure Ends where
 nx:St->Hp->Prop
 rt:VK
 bk:St->Hp->Prop:=fun _ _=>False
 ct:St->Hp->Prop:=fun _ _=>False
abbrev TS:=Ends->St->Hp->Prop
def EP(X:Cx)(AD:List (Addr×Obj))(σ:St)(Q:VK)(u:Value)(s':Shared):Prop:=∃v H',Inv X AD σ H' s'/\RelV v u/\Q v H'
def TP(X:Cx)(AD:List (Addr×Obj))(σ:St)(Q:Bool->Hp->Prop)(b:Bool)(s':Shared):Prop:=∃H',Inv X AD σ H' s'/\Q b H'
def AP(X:Cx)(AD:List (Addr×Obj))(σ:St)(Q:List V->Hp->Prop)(us:List Value)(s':Shared):Prop:=∃vs H',Inv X AD σ H' s'/\Vals vs us/\Q vs H'
def SP(X:Cx)(AD:List (Addr×Obj))(D:Ends)(f:Flow)(s':Shared):Prop:=match f with
 |.next=>∃σ' H',Inv X AD σ' H' s'/\D.nx σ' H'
 |.brk=>∃σ' H',Inv X AD σ' H' s'/\D.bk σ' H'
 |.cont=>∃σ' H',Inv X AD σ' H' s'/\D.ct σ' H'
 |.ret u=>∃v σ' H',Inv X AD σ' H' s'/\RelV v u/\D.rt v H'
def PE(X:Cx)(e:Expr)(t:TE):Prop:=∀(AD:List (Addr×Obj))(s:Shared)(σ:St)(H:Hp)(Q:VK),Inv X AD σ H s->t σ H Q->wpAny (model X.prog X.w) X.A (eval e X.env) (EP X AD σ Q) X.xe s
def PT(X:Cx)(e:Expr)(t:TT):Prop:=∀(AD:List (Addr×Obj))(s:Shared)(σ:St)(H:Hp)(Q:Bool->Hp->Prop),Inv X AD σ H s->t σ H Q->wpAny (model X.prog X.w) X.A (isTrue e X.env (eval e X.env)) (TP X AD σ Q) X.xe s
def PA(X:Cx)(es:List Expr)(t:TA):Prop:=∀(pos:Pos)(AD:List (Addr×Obj))(s:Shared)(σ:St)(H:Hp)(Q:List V->Hp->Prop),Inv X AD σ H s->t σ H Q->wpAny (model X.prog X.w) X.A (spliced (backTo pos (starEach es X.env))) (AP X AD σ Q) X.xe s
def PS(X:Cx)(st:Stmt)(t:TS):Prop:=∀(AD:List (Addr×Obj))(s:Shared)(σ:St)(H:Hp)(D:Ends),Inv X AD σ H s->t D σ H->wpAny (model X.prog X.w) X.A (exec st X.env) (SP X AD D) X.xe s
def PSs(X:Cx)(st:List Stmt)(t:TS):Prop:=∀(AD:List (Addr×Obj))(s:Shared)(σ:St)(H:Hp)(D:Ends),Inv X AD σ H s->t D σ H->wpAny (model X.prog X.w) X.A (execs st X.env) (SP X AD D) X.xe s
theorem thn{α:Type}{t:Sem α}{Q Q':α->Shared->Prop}{M:Model}{A:Around}{E:Value->Shared->Prop}{s:Shared}(h:wpAny M A t Q E s)(hQ:∀a s,Q a s->Q' a s):wpAny M A t Q' E s:=wpAny_mono h hQ fun _ _ x=>x
section
variable {X:Cx}
def kz(i:Nat):TE:=fun σ H Q=>∃v,σ[i]?=some (some v)/\Q v H
def tC(v:V):TE:=fun _ H Q=>Q v H
theorem b5{i:Nat}{x:Str}{pos:Pos}(hN:X.N[i]?=some x)(hv:Vis X.env.scope x)(hd:(x==("__debug__":Str))=false:=by decide)(RB:(x==("__classdict__":Str))=false:=by decide):PE X (.Name x pos) (kz i):=by
 intro AD s σ H Q I h;obtain⟨v,e,h⟩:=h;obtain⟨m,hn,hl⟩:=I.loc;obtain⟨u,r,l⟩:=hl i x v hN e hv;have fin:EP X AD σ Q u s:=⟨v,H,I,r,h⟩;rcases l with⟨hk,hm⟩|⟨hk,c,hc,Z7⟩
 ·exact wpAny_Name (wpAny_loadName_local I.ok.kind hk hn hm fin) hd
 ·rcases hk with hk|hk
  ·exact wpAny_Name (wpAny_loadName_cell I.ok.kind hk hc Z7 fin) hd
  ·exact wpAny_Name (wpAny_loadName_free I.ok.kind hk hc Z7 fin RB) hd
theorem cM{i j pos}:PE X (.Constant (.int i) j pos) (tC (.int i)):=fun _ _ _ H _ I h=>wpAny_Constant_int ⟨.int i,H,I.tok _,⟨_,rfl⟩,h⟩
theorem fH{b j pos}:PE X (.Constant (.bool b) j pos) (tC (.bl b)):=fun _ _ _ H _ I h=>Constant_bool ⟨.bl b,H,I,rfl,h⟩
theorem br{x j pos}:PE X (.Constant (.str x) j pos) (tC (.str x)):=fun _ _ _ H _ I h=>Calls.Constant_str ⟨.str x,H,I.tok _,⟨_,rfl⟩,h⟩
def Gl(X:Cx)(x:Str):Prop:=X.env.kindOf x=some .globalImplicit
theorem Hc{E:Value->Shared->Prop}{AD:List (Addr×Obj)}{s:Shared}{σ:St}{H:Hp}{x:Str}{u:Value}{pos:Pos}{Q:Value->Shared->Prop}(I:Inv X AD σ H s)(hg:Gl X x)(hm:X.mg x=some u)(h:Q u s)(hd:(x==("__debug__":Str))=false:=by decide):wpAny (model X.prog X.w) X.A (eval (.Name x pos) X.env) Q E s:=Calls.Name_function_global I.ok.kind hg (Calls.loadGlobal_global (by rw[I.ok.glob];exact I.mod.glob.keeps I.bk) hm h) hd
theorem Cv{E:Value->Shared->Prop}{AD:List (Addr×Obj)}{s:Shared}{σ:St}{H:Hp}{x:Str}{u:Value}{pos:Pos}{Q:Value->Shared->Prop}(I:Inv X AD σ H s)(hg:Gl X x)(hm:X.mg x=none)(hv:bootBuiltins x=some u)(h:Q u s)(hn:x≠"__name__":=by decide)(hd:(x==("__debug__":Str))=false:=by decide):wpAny (model X.prog X.w) X.A (eval (.Name x pos) X.env) Q E s:=by obtain⟨mb,h1,h2⟩:=I.mod.blt;exact Calls.Name_function_global I.ok.kind hg (Calls.loadGlobal_builtin (by rw[I.ok.glob];exact I.mod.glob.keeps I.bk) hm (by rw[I.ok.blt];exact h1.keeps I.bk) ((h2 x hn).trans hv) h) hd
theorem RM{x:Str}{v:V}{u:Value}{pos:Pos}(hg:Gl X x)(hm:X.mg x=some u)(r:RelV v u)(hd:(x==("__debug__":Str))=false:=by decide):PE X (.Name x pos) (tC v):=fun _ _ _ H _ I h=>Hc I hg hm ⟨v,H,I,r,h⟩ hd
theorem RP{x:Str}{v:V}{u:Value}{pos:Pos}(hg:Gl X x)(hm:X.mg x=none)(hv:bootBuiltins x=some u)(r:RelV v u)(hn:x≠"__name__":=by decide)(hd:(x==("__debug__":Str))=false:=by decide):PE X (.Name x pos) (tC v):=fun _ _ _ H _ I h=>Cv I hg hm hv ⟨v,H,I,r,h⟩ hn hd
variable {a b:Expr}{ta tb:TE}{pos:Pos}
theorem N9(b:Expr){op:CmpOp}(h:op≠.In)(h2:op≠.NotIn):behindInMarks op b=false:=by
 have e1:(op==CmpOp.In)=false:=by cases op<;>first|rfl|exact absurd rfl h
 have e2:(op==CmpOp.NotIn)=false:=by cases op<;>first|rfl|exact absurd rfl h2
 cases b<;>simp[behindInMarks,e1,e2]
variable {tA rZ:TT}{rest:List Expr}
end
def SqL(K:PySem.W.Frag)(H:Hp)(a:Addr)(xs:List V):Prop:=Rd H a (.lst xs) ∨
  ∃(o:Obj)(AO:Array Value)(n:Nat),K.lookup a=some o/\o.cls=.type "list"/\o.dict=none/\o.data=.seq AO n/\AO.size<=sizeLine/\Vals xs AO.toList
def SqT(K:PySem.W.Frag)(H:Hp)(a:Addr)(xs:List V):Prop:=Rd H a (.tup xs) ∨
  ∃(o:Obj)(AO:Array Value)(n:Nat),K.lookup a=some o/\o.cls=.type "tuple"/\o.data=.seq AO n/\AO.size<=sizeLine/\Vals xs AO.toList
def jv:Value->Option V
 |.none=>some .non
 |.bool b=>some (.bl b)
 |.int i _=>some (.int i)
 |.str x _=>some (.str x)
 |.bytes b _=>some (.byt b)
 |.float b _=>some (.flt b)
 |.ref a=>some (.ref a)
 |.type n=>some (.ty n)
 |_=>none
theorem RelV.abs{x:V}{u:Value}(r:RelV x u):jv u=some x:=by
 cases x with
 |non=>cases r;rfl
 |bl _=>cases r;rfl
 |int _=>obtain⟨t,rfl⟩:=r;rfl
 |str _=>obtain⟨t,rfl⟩:=r;rfl
 |byt _=>obtain⟨t,rfl⟩:=r;rfl
 |flt _=>obtain⟨t,rfl⟩:=r;rfl
 |ref _=>cases r;rfl
 |ty _=>cases r;rfl
theorem RelV.inj{x y:V}{u:Value}(r:RelV x u)(q:RelV y u):x=y:=Option.some.inj (r.abs.symm.trans q.abs)
theorem Vals.inj:∀{xs ys:List V}{us:List Value},Vals xs us->Vals ys us->xs=ys
 |_,_,_,.nil,.nil=>rfl
 |_,_,_,.cons r t,.cons r' t'=>by rw[r.inj r',Vals.inj t t']
section
variable {X:Cx}{AD:List (Addr×Obj)}{σ:St}{H:Hp}{s:Shared}{a:Addr}{xs ys:List V}
theorem SqL.of{K:PySem.W.Frag}(h:H a=some (.lst xs)):SqL K H a xs:=.inl (.inl h)
theorem SqT.of{K:PySem.W.Frag}(h:H a=some (.tup xs)):SqT K H a xs:=.inl (.inl h)
theorem Inv.list(I:Inv X AD σ H s)(h:SqL X.K H a xs):∃AO:List Value,Vals xs AO/\PlainL s.heap a AO.toArray/\xs.length<=sizeLine:=by
 rcases h with h|⟨o,AO,n,hk,hc,hd,hs,hz,r⟩
 ·obtain⟨z,AO,n,r,e⟩:=h.ok I.hok;exact⟨AO,r,⟨_,n,e,rfl,rfl,rfl⟩,z⟩
 ·refine⟨AO.toList,r,⟨o,n,I.kIn a o hk,hc,hd,by simpa using hs⟩,?_⟩;have e:=r.length;simp only[Array.length_toList]at e;lia
theorem Inv.tuple(I:Inv X AD σ H s)(h:SqT X.K H a xs):∃AO:List Value,Vals xs AO/\IsTup s.heap a AO.toArray/\xs.length<=sizeLine:=by
 rcases h with h|⟨o,AO,n,hk,hc,hs,hz,r⟩
 ·obtain⟨z,AO,r,p⟩:=h.ok I.hok;exact⟨AO,r,p,z⟩
 ·refine⟨AO.toList,r,⟨o,I.kIn a o hk,hc,n,by simpa using hs⟩,?_⟩;have e:=r.length;simp only[Array.length_toList]at e;lia
theorem Inv.list_inj(I:Inv X AD σ H s)(h:SqL X.K H a xs)(h':SqL X.K H a ys):xs=ys:=by
 obtain⟨AO,r,⟨o,n,e,_,_,d⟩,_⟩:=I.list h;obtain⟨its',r',⟨o',n',e',_,_,d'⟩,_⟩:=I.list h';rw[e]at e';cases e';rw[d]at d';injection d' with d1 _;have:AO=its':=by simpa using congrArg Array.toList d1
 subst this;exact r.inj r'
theorem Inv.tuple_inj(I:Inv X AD σ H s)(h:SqT X.K H a xs)(h':SqT X.K H a ys):xs=ys:=by
 obtain⟨AO,r,⟨o,e,_,n,d⟩,_⟩:=I.tuple h;obtain⟨its',r',⟨o',e',_,n',d'⟩,_⟩:=I.tuple h';rw[e]at e';cases e';rw[d]at d';injection d' with d1 _;have:AO=its':=by simpa using congrArg Array.toList d1
 subst this;exact r.inj r'
end
abbrev Cx.wish(X:Cx)(E:Value->Shared->Prop):Cx:={ X with xe:=E }
abbrev Cx.nox(X:Cx):Cx:=X.wish fun _ _=>False
theorem Cx.Ok.wish{X:Cx}(ok:X.Ok)(E:Value->Shared->Prop):(X.wish E).Ok:=⟨ok.mod,ok.kind,ok.glob,ok.blt,ok.above,ok.inj,ok.has,ok.cab,ok.hd,ok.frames,ok.stk,ok.exf,ok.bs,ok.bsz,ok.noex,ok.exfs,ok.funs,ok.frf⟩
theorem Cx.Ok.unwish{X:Cx}{E:Value->Shared->Prop}(ok:(X.wish E).Ok):X.Ok:=⟨ok.mod,ok.kind,ok.glob,ok.blt,ok.above,ok.inj,ok.has,ok.cab,ok.hd,ok.frames,ok.stk,ok.exf,ok.bs,ok.bsz,ok.noex,ok.exfs,ok.funs,ok.frf⟩
section
variable {X:Cx}{AD:List (Addr×Obj)}{σ:St}{H:Hp}{s:Shared}{E:Value->Shared->Prop}
theorem Inv.wish(I:Inv X AD σ H s)(E:Value->Shared->Prop):Inv (X.wish E) AD σ H s:=⟨I.ok.wish E,I.os,I.bare,I.base,I.loc,I.cell,I.free,I.freeC,I.pin,I.hok,I.len⟩
theorem Inv.unwish(I:Inv (X.wish E) AD σ H s):Inv X AD σ H s:=⟨I.ok.unwish,I.os,I.bare,I.base,I.loc,I.cell,I.free,I.freeC,I.pin,I.hok,I.len⟩
theorem SP.unwish{D:Ends}{f:Flow}{s':Shared}(h:SP (X.wish E) AD D f s'):SP X AD D f s':=by
 cases f with
 |next=>obtain⟨σ',H',I,q⟩:=h;exact⟨σ',H',I.unwish,q⟩
 |brk=>obtain⟨σ',H',I,q⟩:=h;exact⟨σ',H',I.unwish,q⟩
 |cont=>obtain⟨σ',H',I,q⟩:=h;exact⟨σ',H',I.unwish,q⟩
 |ret u=>obtain⟨v,σ',H',I,r,q⟩:=h;exact⟨v,σ',H',I.unwish,r,q⟩
theorem PSs.nox{st:List Stmt}{t:TS}(h:PSs X.nox st t):PSs X st t:=fun AD s σ H D I hw=>
 wpAny_mono (h AD s σ H D (I.wish _) hw) (fun _ _ q=>q.unwish) fun _ _ z=>False.elim z
end
section
variable {X:Cx}{st:Stmt}{rest:List Stmt}{t u:TS}{e:Expr}{te:TE}{pos:Pos}
theorem Inv.quiet{AD:List (Addr×Obj)}{σ:St}{H:Hp}{s:Shared}(I:Inv X AD σ H s):interactive X.env=false:=by simp[interactive,I.ok.kind]
def gE(te:TE):TS:=fun D σ H=>te σ H fun _ H1=>D.nx σ H1
theorem YF(he:PE X e te)(hs:swapsWith e none pos.line X.env=pure false:=by rfl):PS X (.Expr e pos) (gE te):=by intro AD s σ H D I h;exact wpAny_Expr_any (thn (he AD s σ H _ I h) fun v s1 ⟨x,H1,I1,r1,q1⟩=>⟨σ,H1,I1,q1⟩) I.quiet hs
end
abbrev TG:=V->St->Hp->(St->Hp->Prop)->Prop
abbrev TGs:=List V->St->Hp->(St->Hp->Prop)->Prop
def PG(X:Cx)(AL:Expr)(t:TG):Prop:=∀(AD:List (Addr×Obj))(s:Shared)(σ:St)(H:Hp)(v:V)(u:Value)(Q:St->Hp->Prop),Inv X AD σ H s->RelV v u->t v σ H Q →
  wpAny (model X.prog X.w) X.A (assign AL X.env u) (fun _ s'=>∃σ' H',Inv X AD σ' H' s'/\Q σ' H') X.xe s
def PGs(X:Cx)(ts:List Expr)(t:TGs):Prop:=∀(AD:List (Addr×Obj))(s:Shared)(σ:St)(H:Hp)(vs:List V)(us:List Value)(Q:St->Hp->Prop),Inv X AD σ H s->Vals vs us->t vs σ H Q →
  wpAny (model X.prog X.w) X.A (assignInOrder ((assignEach ts X.env).map (·.2)) us) (fun _ s'=>∃σ' H',Inv X AD σ' H' s'/\Q σ' H') X.xe s
section
variable {X:Cx}{pos:Pos}
def aH(i:Nat):TG:=fun v σ H Q=>Q (σ.set i (some v)) H
theorem GO{i:Nat}{x:Str}(hN:X.N.Nodup)(hi:X.N[i]?=some x)(hx:Loc X.env.scope x)(hf:X.fn x=true\/X.env.scope.names.lookup x=some .local:=by first|exact .inl rfl|exact .inr rfl|assumption):PG X (.Name x pos) (aH i):=by intro AD s σ H v u Q I r h;exact wpAny_assign_Name (Jp I hN hi hx r (fun s' I'=>⟨_,H,I',h⟩) hf)
def iy:TGs:=fun vs σ H Q=>vs=[]/\Q σ H
def eC(t:TG)(u:TGs):TGs:=fun vs σ H Q=>∃v r,vs=v::r/\t v σ H fun σ' H'=>u r σ' H' Q
theorem Sb:PGs X [] iy:=by intro AD s σ H vs us Q I r h;obtain⟨e,h⟩:=h;subst e;cases r;exact assignInOrder_nil ⟨σ,H,I,h⟩
theorem Fs{e:Expr}{es:List Expr}{t:TG}{u:TGs}(h1:PG X e t)(h2:PGs X es u)(hs:(assignEach (e::es) X.env).map (·.2)=assign e X.env::(assignEach es X.env).map (·.2):=by rfl):PGs X (e::es) (eC t u):=by
 intro AD s σ H vs us Q I r h;obtain⟨v,vr,e1,h⟩:=h;subst e1;cases r with
 |cons r rr=>
  rw[hs];refine assignInOrder_cons (thn (h1 AD s σ H _ _ _ I r h) fun _ s1 ⟨σ1,H1,I1,q1⟩=>?_);exact h2 AD s1 σ1 H1 _ _ Q I1 rr q1
def ie(K:PySem.W.Frag)(n:Nat)(t:TGs):TG:=fun v σ H Q=>∃a xs,v=.ref a/\SqT K H a xs/\xs.length=n/\t xs σ H Q
theorem Uq{es:List Expr}{k:Nat}{t:TGs}{n:Nat}(hc:X.calm=true)(h:PGs X es t)(hn:(assignEach es X.env).length=n:=by rfl)(JN:(assignEach es X.env).findIdx? (·.1)=none:=by rfl):PG X (.Tuple es k pos) (ie X.K n t):=by intro AD s σ H v u Q I r hw;obtain⟨a,xs,e1,hq,hl,hw⟩:=hw;subst e1;cases r;obtain⟨AO,rv,ht,hz⟩:=I.tuple hq;refine assign_Tuple_tuple (I.ok.hd hc) ht (by simp[hn,<-hl,rv.length]) JN fun h' hx=>?_;have I1:Inv X AD σ H { s with heap:=h' }:=I.kept (t':=s.toks) fun b o e=>hx b o (Nat.ne_of_lt (Heap.lt_size e)) e;exact h AD _ σ H xs _ Q I1 (by simpa using rv) hw
def lM(te:TE)(g:TG):TS:=fun D σ H=>te σ H fun x H1=>g x σ H1 D.nx
theorem WW{i:Nat}{x:Str}{e:Expr}{te:TE}{pos':Pos}(hN:X.N.Nodup)(hi:X.N[i]?=some x)(hx:Loc X.env.scope x)(he:PE X e te)(hs:swapsWith e (some (.Name x pos')) pos.line X.env=pure false:=by rfl)(hf:X.fn x=true\/X.env.scope.names.lookup x=some .local:=by first|exact .inl rfl|exact .inr rfl|assumption) :
  PS X (.Assign [.Name x pos'] e pos) (lM te (aH i)):=by
 intro AD s σ H D I h;refine wpAny_Assign_Name (thn (he AD s σ H _ I h) fun v s1 ⟨y,H1,I1,r1,q1⟩=>?_) hs;exact Jp I1 hN hi hx r1 (fun s2 I2=>⟨_,H1,I2,q1⟩) hf
end
structure It where
 go:Nat->Hp->Prop
 yld:Nat->Hp->V->Hp->Prop
 stop:Nat->Hp->Prop
def IY(X:Cx)(AD:List (Addr×Obj))(H:Hp)(b:Addr):Prop:=H b=none/\b≠X.env.locals/\b∉X.fs/\(b∈X.ex\/X.s₀.heap.objs.size<=b)/\(∀x c,X.env.cells.lookup x=some c->c≠b)/\∀p∈X.pn++AD,p.1≠b
theorem Inv.fpOk{X:Cx}{AD:List (Addr×Obj)}{σ:St}{H H':Hp}{s:Shared}{b:Addr}(I:Inv X AD σ H s)(hb:s.heap.objs.size<=b)(hn:H' b=none):IY X AD H' b:=by
 refine⟨hn,Nat.ne_of_gt (Nat.lt_of_lt_of_le I.lt hb),I.nofs hb,.inr (Nat.le_trans I.sz hb),fun x c e z=>?_,fun p hp z=>?_⟩
 ·obtain⟨v,q⟩:=I.cell x c e;exact absurd (Nat.lt_of_lt_of_le q.lt (by rw[z];exact hb)) (Nat.lt_irrefl _)
 ·exact absurd (Nat.lt_of_lt_of_le (Heap.lt_size (I.pin p hp).1) (by rw[z];exact hb)) (Nat.lt_irrefl _)
structure Turn (P:Program) (w:World) (K:PySem.W.Frag) (tg:Expr) (J:It) (fp:List Addr) (it:Addr) (tn:Nat->Heap->Prop):Prop where
 mem:it∈fp
 obj:∀i h,tn i h->∀b∈fp,∃o,h.get? b=some o/\∀v,o.data≠.cell v
 keep:∀i h h',tn i h->(∀b∈fp,∀o,h.get? b=some o->h'.get? b=some o)->tn i h'
 item:∀(X:Cx),X.prog=P->X.w=w->X.K=K->X.calm=true->∀(i:Nat)(AD:List (Addr×Obj))(s:Shared)(σ:St)(H:Hp)(E:Value->Shared->Prop),Inv X AD σ H s->(∀b∈fp,IY X AD H b)->tn i s.heap->J.go i H →
  wpAny (model P w) X.A (pyNext (.ref it)) (fun r s1=>∃u,r=some u ∧
   wpAny (model P w) X.A (letOwnedTupleGo tg (.ref it) u) (fun _ s2=>∃x H',Inv X AD σ H' s2/\RelV x u/\J.yld i H x H'/\tn (i+1) s2.heap/\∀b∈fp,H' b=none) E s1) E s
 done:∀(X:Cx),X.prog=P->X.w=w->X.K=K->X.calm=true->∀(i:Nat)(AD:List (Addr×Obj))(s:Shared)(σ:St)(H:Hp)(E:Value->Shared->Prop),Inv X AD σ H s->(∀b∈fp,IY X AD H b)->tn i s.heap->J.stop i H →
  wpAny (model P w) X.A (pyNext (.ref it)) (fun r s1=>r=none/\Inv X AD σ H s1) E s
 self:∀(A:Around)(i:Nat)(s:Shared)(Q:Value->Shared->Prop)(E:Value->Shared->Prop),tn i s.heap->Q (.ref it) s->wpAny (model P w) A (pyIter (.ref it)) Q E s
abbrev TI:=St->Hp->(It->Hp->Prop)->Prop
def PIE(X:Cx)(AD:List (Addr×Obj))(σ:St)(tg:Expr)(R:It->Hp->Prop)(dQ:Value)(s2:Shared):Prop:=∃(it:Addr)(fp:List Addr)(tn:Nat->Heap->Prop)(J:It)(H':Hp),dQ=.ref it/\Inv X AD σ H' s2/\Turn X.prog X.w X.K tg J fp it tn/\tn 0 s2.heap/\(∀b∈fp,IY X AD H' b)/\R J H'
def PI(X:Cx)(tg Ac:Expr)(wi:TI):Prop:=∀(AD:List (Addr×Obj))(s:Shared)(σ:St)(H:Hp)(R:It->Hp->Prop),Inv X AD σ H s->wi σ H R →
  wpAny (model X.prog X.w) X.A (eval Ac X.env) (fun v s1=>wpAny (model X.prog X.w) X.A (pyIter v) (PIE X AD σ tg R) X.xe s1) X.xe s
theorem RH{M : Model}{A : Around}{E : Value → Shared → Prop}{s : Shared}{tg : Expr}{it : Addr}{u : Value}{o : Obj}{n : String}{vs : Array Value}{Q : Unit → Shared → Prop}(ho : s.heap.get? it = some o)(hc : o.cls = .type n)(hd : o.data = .fields vs)(hn : ["enumerate", "zip", "dict_itemiterator", "dict_reverseitemiterator", "odict_iterator", "itertools.zip_longest", "itertools.pairwise"].contains n = false)(hQ : Q () s) : wpAny M A (letOwnedTupleGo tg (.ref it) u) Q E s := by
  unfold letOwnedTupleGo;cases tg <;> first
    | exact wpAny_pure hQ
    | (cases u <;> first
        | exact wpAny_pure hQ
        | (refine wpAny_bind (wpAny_load ho ?_)
           rw[hc, hd];show wpAny M A (if (["enumerate", "zip", "dict_itemiterator", "dict_reverseitemiterator", "odict_iterator", "itertools.zip_longest", "itertools.pairwise"].contains n && vs[0]? == some (rawInt _)) = true then _ else _) Q E s;rw[if_neg (by intro h; rw[hn, Bool.false_and] at h; cases h)];exact wpAny_pure hQ))
def Itl(K:PySem.W.Frag)(a:Addr):It:=⟨fun i H=>∃xs x,SqL K H a xs/\xs[i]?=some x,fun i H x H'=>H'=H/\∀xs,SqL K H a xs->xs[i]?=some x,fun i H=>∃xs,SqL K H a xs/\xs.length<=i⟩
def Itt(K:PySem.W.Frag)(a:Addr):It:=⟨fun i H=>∃xs x,SqT K H a xs/\xs[i]?=some x,fun i H x H'=>H'=H/\∀xs,SqT K H a xs->xs[i]?=some x,fun i H=>∃xs,SqT K H a xs/\xs.length<=i⟩
def Itr(lo:Int)(n:Nat):It:=⟨fun i _=>i<n,fun i H x H'=>H'=H/\x=.int (lo+i),fun i _=>n<=i⟩
theorem Sr{P:Program}{w:World}{K:PySem.W.Frag}{tg:Expr}(a it:Addr):Turn P w K tg (Itl K a) [it] it (fun i h=>h.IsListIter it a i) where
 mem:=by simp
 obj:=fun i h st b hb=>by
  have e:b=it:=by simpa using hb
  subst e;obtain⟨o,e,c,d⟩:=st;exact⟨o,e,fun v z=>by rw[d]at z;cases z⟩
 keep:=fun i h h' st k=>st.at fun o e=>k it (by simp) o e
 item:=by
  intro X hP hw hK hc i AD s σ H E I hf st hg;subst hP hw hK;obtain⟨xs,x,hq,hx⟩:=hg;obtain⟨AO,rv,p,hz⟩:=I.list hq;obtain⟨u,hu,ru⟩:=rv.get hx;obtain⟨f0,f1,f2,f3,f4,f5⟩:=hf it (by simp);refine wpAny_pyNext_list_item st p.isList (x:=u) (by simpa using hu) fun h' AN sb=>?_;have I1:Inv X AD σ H { s with heap:=h' }:=I.turned (t':=s.toks) (fun b o hb e=>(sb.2 b hb).trans e) f0 f1 f3 f4 f5;obtain⟨o,e,c,d⟩:=id AN;exact⟨u,rfl,RH (s:={ s with heap:=h' }) e c d (by decide) ⟨x,H,I1,ru,⟨rfl,fun ys hy=>by rw[I.list_inj hy hq];exact hx⟩,AN,fun b hb=>(hf b hb).1⟩⟩
 done:=by
  intro X hP hw hK hc i AD s σ H E I hf st hg;subst hP hw hK;obtain⟨xs,hq,hx⟩:=hg;obtain⟨AO,rv,p,hz⟩:=I.list hq;obtain⟨f0,f1,f2,f3,f4,f5⟩:=hf it (by simp);have hl:=rv.length;exact wpAny_pyNext_list_end (I.ok.hd hc) st p.isList (by simp;lia) fun h' eb=>⟨rfl,I.turned (t':=s.toks) (fun b o hb e=>eb b o hb e) f0 f1 f3 f4 f5⟩
 self:=fun _ _ _ _ _ st h=>wpAny_pyIter_listiter st h
theorem QA{P:Program}{w:World}{K:PySem.W.Frag}{tg:Expr}(a it:Addr):Turn P w K tg (Itt K a) [it] it (fun i h=>h.IsTupleIter it a i) where
 mem:=by simp
 obj:=fun i h st b hb=>by
  have e:b=it:=by simpa using hb
  subst e;obtain⟨o,e,c,d⟩:=st;exact⟨o,e,fun v z=>by rw[d]at z;cases z⟩
 keep:=fun i h h' st k=>st.at fun o e=>k it (by simp) o e
 item:=by
  intro X hP hw hK hc i AD s σ H E I hf st hg;subst hP hw hK;obtain⟨xs,x,hq,hx⟩:=hg;obtain⟨AO,rv,p,hz⟩:=I.tuple hq;obtain⟨u,hu,ru⟩:=rv.get hx;obtain⟨f0,f1,f2,f3,f4,f5⟩:=hf it (by simp);refine wpAny_pyNext_tuple_item st (show s.heap.IsTuple a AO.toArray from p) (x:=u) (by simpa using hu) fun h' AN sb=>?_;have I1:Inv X AD σ H { s with heap:=h' }:=I.turned (t':=s.toks) (fun b o hb e=>(sb.2 b hb).trans e) f0 f1 f3 f4 f5;obtain⟨o,e,c,d⟩:=id AN;exact⟨u,rfl,RH (s:={ s with heap:=h' }) e c d (by decide) ⟨x,H,I1,ru,⟨rfl,fun ys hy=>by rw[I.tuple_inj hy hq];exact hx⟩,AN,fun b hb=>(hf b hb).1⟩⟩
 done:=by
  intro X hP hw hK hc i AD s σ H E I hf st hg;subst hP hw hK;obtain⟨xs,hq,hx⟩:=hg;obtain⟨AO,rv,p,hz⟩:=I.tuple hq;obtain⟨f0,f1,f2,f3,f4,f5⟩:=hf it (by simp);have hl:=rv.length;exact wpAny_pyNext_tuple_end (I.ok.hd hc) st (show s.heap.IsTuple a AO.toArray from p) (by simp;lia) fun h' eb=>⟨rfl,I.turned (t':=s.toks) (fun b o hb e=>eb b o hb e) f0 f1 f3 f4 f5⟩
 self:=fun _ _ _ _ _ st h=>wpAny_pyIter_tupleiter st h
theorem QH{P:Program}{w:World}{K:PySem.W.Frag}{tg:Expr}(it:Addr)(lo:Int)(n:Nat):Turn P w K tg (Itr lo n) [it] it (fun i h=>IsRangeIter h it (lo+(i:Nat)*1) ((n:Int)-(i:Nat)) 1) where
 mem:=by simp
 obj:=fun i h st b hb=>by
  have e:b=it:=by simpa using hb
  subst e;exact⟨_,st,fun v z=>by
   have z':Data.fields _=Data.cell v:=z;cases z'⟩
 keep:=fun i h h' st k=>k it (by simp) _ st
 item:=by
  intro X hP hw hK hc i AD s σ H E I hf st hg;subst hP hw hK;obtain⟨f0,f1,f2,f3,f4,f5⟩:=hf it (by simp);have W:=Walks.range (prog:=X.prog) (w:=X.w) (I.ok.hd hc) it lo 1 n;refine W.item i s _ _ hg st fun v h' tk hv AN kk=>?_;obtain⟨t,rfl⟩:=hv;have I1:Inv X AD σ H { s with heap:=h',toks:=tk }:=I.turned (fun b o hb e=>kk b o (by simpa using hb) e) f0 f1 f3 f4 f5;refine⟨_,rfl,RH (s:={ s with heap:=h',toks:=tk }) (n:="range_iterator") AN rfl rfl (by decide) ⟨.int (lo+i),H,I1,⟨t,?_⟩,⟨rfl,rfl⟩,AN,fun b hb=>(hf b hb).1⟩⟩;rw[Int.mul_one]
 done:=by
  intro X hP hw hK hc i AD s σ H E I hf st hg;subst hP hw hK;obtain⟨f0,f1,f2,f3,f4,f5⟩:=hf it (by simp);exact wpAny_pyNext_range_end (I.ok.hd hc) st (by have:n<=i:=hg;lia) fun h' eb=>⟨rfl,I.turned (t':=s.toks) (fun b o hb e=>eb b o hb e) f0 f1 f3 f4 f5⟩
 self:=fun _ _ _ _ _ st h=>wpAny_pyIter_rangeiter st h
section
variable {X:Cx}{tg:Expr}
def eV(K:PySem.W.Frag)(tl:TE):TI:=fun σ H R=>tl σ H fun x H1=>∃a,x=.ref a/\(∃xs,SqL K H1 a xs)/\R (Itl K a) H1
def iT(K:PySem.W.Frag)(tl:TE):TI:=fun σ H R=>tl σ H fun x H1=>∃a,x=.ref a/\(∃xs,SqT K H1 a xs)/\R (Itt K a) H1
theorem X5{l:Expr}{tl:TE}(hl:PE X l tl):PI X tg l (eV X.K tl):=by
 intro AD s σ H R I h;refine thn (hl AD s σ H _ I h) fun v s1 ⟨x,H1,I1,r1,q1⟩=>?_;obtain⟨a,e,⟨xs,hq⟩,q⟩:=q1;subst e;cases r1;obtain⟨AO,rv,p,hz⟩:=I1.list hq;refine wpAny_pyIter_list p.isList ?_;refine⟨s1.heap.objs.size,[s1.heap.objs.size],_,_,H1,rfl,I1.kept (t':=s1.toks) fun b o e=>Heap.get?_push_of_some _ e,Sr a _,⟨_,Heap.get?_push_size _ rfl,rfl,rfl⟩,fun b hb=>?_,q⟩;have e:b=s1.heap.objs.size:=by simpa using hb
 subst e;exact I1.fpOk (Nat.le_refl _) (I1.hok.fresh (Nat.le_refl _))
theorem cD{l:Expr}{tl:TE}(hl:PE X l tl):PI X tg l (iT X.K tl):=by
 intro AD s σ H R I h;refine thn (hl AD s σ H _ I h) fun v s1 ⟨x,H1,I1,r1,q1⟩=>?_;obtain⟨a,e,⟨xs,hq⟩,q⟩:=q1;subst e;cases r1;obtain⟨AO,rv,p,hz⟩:=I1.tuple hq;refine wpAny_pyIter_tuple (show s1.heap.IsTuple a AO.toArray from p) ?_;refine⟨s1.heap.objs.size,[s1.heap.objs.size],_,_,H1,rfl,I1.kept (t':=s1.toks) fun b o e=>Heap.get?_push_of_some _ e,QA a _,⟨_,Heap.get?_push_size _ rfl,rfl,rfl⟩,fun b hb=>?_,q⟩;have e:b=s1.heap.objs.size:=by simpa using hb
 subst e;exact I1.fpOk (Nat.le_refl _) (I1.hok.fresh (Nat.le_refl _))
theorem Pp{AD:List (Addr×Obj)}{σ:St}{H:Hp}{s:Shared}{R:It->Hp->Prop}{E:Value->Shared->Prop}{lo hi:Int}{t u v:Tok}{tk:Nat}(I:Inv X AD σ H s)(h1:-(2 ^ 62)<=lo)(h2:lo<2 ^ 62)(h3:-(2 ^ 62)<=hi)(h4:hi<2 ^ 62)(q:R (Itr lo (hi-lo).toNat) H):wpAny (model X.prog X.w) X.A (pyIter (.ref s.heap.objs.size)) (PIE X AD σ tg R) E { s with heap:=s.heap.push { cls:=.type "range",data:=.fields #[.int lo t,.int hi u,.int 1 v] },toks:=tk }:=by
 refine wpAny_pyIter_range (IsRange.new ..) (small_one h1 h2 h3 h4) ?_;have I1:Inv X AD σ H { s with heap:=s.heap.push { cls:=.type "range",data:=.fields #[.int lo t,.int hi u,.int 1 v] },toks:=tk }:=I.kept fun b o e=>Heap.get?_push_of_some _ e;refine⟨(s.heap.push { cls:=.type "range",data:=.fields #[.int lo t,.int hi u,.int 1 v] }).objs.size,[(s.heap.push { cls:=.type "range",data:=.fields #[.int lo t,.int hi u,.int 1 v] }).objs.size],_,_,H,rfl,
  I1.kept (t':=tk) fun b o e=>Heap.get?_push_of_some _ e,QH _ lo (hi-lo).toNat,?_,fun b hb=>?_,q⟩
 ·have e1:lo+((0:Nat):Int)*1=lo:=by simp
  have e2:(((hi-lo).toNat:Nat):Int)-((0:Nat):Int)=Builtin.Range.rangeSize lo hi 1:=by rw[rangeSize_one];split<;>lia
  show IsRangeIter _ _ (lo+((0:Nat):Int)*1) ((((hi-lo).toNat:Nat):Int)-((0:Nat):Int)) 1;rw[e1,e2];exact Heap.get?_push_size _ rfl
 ·have e:b=(s.heap.push { cls:=.type "range",data:=.fields #[.int lo t,.int hi u,.int 1 v] }).objs.size:=by simpa using hb
  subst e;exact I1.fpOk (Nat.le_refl _) (I1.hok.fresh (Nat.le_refl _))
def gX(ta:TA):TI:=fun σ H R=>ta σ H fun vs H1=>∃j:Int,vs=[.int j]/\-(2 ^ 62)<=j/\j<2 ^ 62/\R (Itr 0 j.toNat) H1
def fu(ta:TA):TI:=fun σ H R=>ta σ H fun vs H1=>∃i j:Int,vs=[.int i,.int j]/\(-(2 ^ 62)<=i/\i<2 ^ 62/\-(2 ^ 62)<=j/\j<2 ^ 62)/\R (Itr i (j-i).toNat) H1
theorem Tv{a:Expr}{ta:TA}{p pos:Pos}(hg:Gl X "range")(hm:X.mg "range"=none)(ha:PA X [a] ta)(hs:starEach [a] X.env=[(false,eval a X.env)]:=by rfl):PI X tg (.Call (.Name "range" p) [a] [] pos) (gX ta):=by
 intro AD s σ H R I h;refine Call_ (Cv I hg hm boot_range (PyProof.Rows.callWith_type1 (thn (ha pos AD s σ H _ I h) fun us s1 ⟨vs,H1,I1,r1,q1⟩=>?_) hs rfl));obtain⟨j,e,q1,q2,q⟩:=q1;subst e;cases r1 with
 |cons r rr=>
  cases rr;obtain⟨t,rfl⟩:=r;exact call_range_1 (Pp I1 (by lia) (by lia) q1 q2 (by simpa using q))
theorem Sk{a b:Expr}{ta:TA}{p pos:Pos}(hg:Gl X "range")(hm:X.mg "range"=none)(ha:PA X [a,b] ta)(hs:starEach [a,b] X.env=[(false,eval a X.env),(false,eval b X.env)]:=by rfl)(RF:starEach [b] X.env=[(false,eval b X.env)]:=by rfl) :
  PI X tg (.Call (.Name "range" p) [a,b] [] pos) (fu ta):=by
 intro AD s σ H R I h;refine Call_ (Cv I hg hm boot_range (PyProof.Rows.callWith_type1 (thn (ha pos AD s σ H _ I h) fun us s1 ⟨vs,H1,I1,r1,q1⟩=>?_) (by rw[hs,RF]) (by rw[RF];rfl)));obtain⟨i,j,e,⟨q1,q2,q3,q4⟩,q⟩:=q1;subst e;cases r1 with
 |cons r rr=>
  cases rr with
  |cons r' rr=>
   cases rr;obtain⟨t,rfl⟩:=r;obtain⟨t',rfl⟩:=r';exact call_range_2 (Pp I1 q1 q2 q3 q4 q)
def NJ(fp:List Addr)(h:Heap):List (Addr×Obj):=fp.filterMap fun b=>(h.get? b).map fun o=>(b,o)
theorem Ef{fp:List Addr}{h:Heap}{b:Addr}{o:Obj}(hb:b∈fp)(e:h.get? b=some o):(b,o)∈NJ fp h:=List.mem_filterMap.mpr ⟨b,hb,by rw[e];rfl⟩
theorem Tn{fp:List Addr}{h:Heap}{p:Addr×Obj}(hp:p∈NJ fp h):p.1∈fp/\h.get? p.1=some p.2:=by
 obtain⟨b,hb,e⟩:=List.mem_filterMap.mp hp;cases q:h.get? b with
 |none=>rw[q]at e;cases e
 |some o=>
  rw[q]at e;have e':(b,o)=p:=Option.some.inj e;subst e';exact⟨hb,q⟩
theorem Inv.pinned{AD:List (Addr×Obj)}{σ:St}{H:Hp}{s:Shared}{fp:List Addr}(I:Inv X AD σ H s)(hf:∀b∈fp,IY X AD H b)(ho:∀b∈fp,∃o,s.heap.get? b=some o/\∀v,o.data≠.cell v):Inv X (AD++NJ fp s.heap) σ H s:=I.pins_of fun p hp=>(List.mem_append.mp hp).elim (fun z=>I.pin p (List.mem_append_right _ z)) fun z=>by
  obtain⟨hb,e⟩:=Tn z;obtain⟨f0,f1,f2,_⟩:=hf p.1 hb;obtain⟨o,e',d⟩:=ho p.1 hb;rw[e]at e';cases e';exact⟨e,f0,f1,f2,d⟩
theorem Inv.unpinned{AD pl:List (Addr×Obj)}{σ:St}{H:Hp}{s:Shared}(I:Inv X (AD++pl) σ H s):Inv X AD σ H s:=I.pins_of fun p hp=>I.pin p (List.mem_append_right _ (List.mem_append_left _ hp))
end
abbrev R2:=V->V->Hp->VK->Prop
def OpR(X:Cx)(f:Value->Value->Sem Value)(r:R2):Prop:=∀(AD:List (Addr×Obj))(s:Shared)(σ:St)(H:Hp)(x y:V)(v u:Value)(Q:VK),Inv X AD σ H s->RelV x v->RelV y u->r x y H Q →
  wpAny (model X.prog X.w) X.A (f v u) (EP X AD σ Q) X.xe s
def UnR(X:Cx)(f:Value->Sem Value)(r:V->Hp->VK->Prop):Prop:=∀(AD:List (Addr×Obj))(s:Shared)(σ:St)(H:Hp)(x:V)(v:Value)(Q:VK),Inv X AD σ H s->RelV x v->r x H Q →
  wpAny (model X.prog X.w) X.A (f v) (EP X AD σ Q) X.xe s
def Bi(X:Cx)(f:Value)(r:List V->Hp->VK->Prop):Prop:=∀(AD:List (Addr×Obj))(s:Shared)(σ:St)(H:Hp)(xs:List V)(us:List Value)(Q:VK),Inv X AD σ H s->Vals xs us->r xs H Q →
  wpAny (model X.prog X.w) X.A (call f us) (EP X AD σ Q) X.xe s
def kG(X:Cx)(r:V->Hp->(Bool->Hp->Prop)->Prop):Prop:=∀(AD:List (Addr×Obj))(s:Shared)(σ:St)(H:Hp)(x:V)(v:Value)(Q:Bool->Hp->Prop),Inv X AD σ H s->RelV x v->r x H Q →
  wpAny (model X.prog X.w) X.A (truthy v) (TP X AD σ Q) X.xe s
def tOp(r:R2)(ta tb:TE):TE:=fun σ H Q=>ta σ H fun x H1=>tb σ H1 fun y H2=>r x y H2 Q
def tUn(r:V->Hp->VK->Prop)(ta:TE):TE:=fun σ H Q=>ta σ H fun x H1=>r x H1 Q
def rI(C:Int->Int->Prop)(g:Int->Int->V):R2:=fun x y H Q=>∃i j,x=.int i/\y=.int j/\C i j/\Q (g i j) H
def rI0(g:Int->Int->V):R2:=fun x y H Q=>∃i j,x=.int i/\y=.int j/\Q (g i j) H
def rU(g:Int->V):V->Hp->VK->Prop:=fun x H Q=>∃i,x=.int i/\Q (g i) H
section
variable {X:Cx}{a b c:Expr}{ta tb tc:TE}{pos:Pos}
theorem gF(ha:PE X a ta)(hb:PE X b tb){AD:List (Addr×Obj)}{s:Shared}{σ:St}{H:Hp}{R:V->V->Hp->Prop}(I:Inv X AD σ H s)(h:ta σ H fun x H1=>tb σ H1 fun y H2=>R x y H2){Q:Value->Shared->Prop}{f:Value->Value->Sem Value}(hf:∀v u s2 x y H2,Inv X AD σ H2 s2->RelV x v->RelV y u->R x y H2->wpAny (model X.prog X.w) X.A (f v u) Q X.xe s2) :
  wpAny (model X.prog X.w) X.A (eval a X.env) (fun v s₁=>wpAny (model X.prog X.w) X.A (eval b X.env) (fun u s₂=>wpAny (model X.prog X.w) X.A (f v u) Q X.xe s₂) X.xe s₁) X.xe s:=by
 refine thn (ha AD s σ H _ I h) fun v s1 ⟨x,H1,I1,r1,q1⟩=>?_;refine thn (hb AD s1 σ H1 _ I1 q1) fun u s2 ⟨y,H2,I2,r2,q2⟩=>?_;exact hf v u s2 x y H2 I2 r1 r2 q2
theorem Zy{op:Operator}{r:R2}(ho:OpR X (binaryOp op) r)(ha:PE X a ta)(hb:PE X b tb):PE X (.BinOp a op b pos) (tOp r ta tb):=by intro AD s σ H Q I h;exact wpAny_BinOp (gF ha hb I h fun v u s2 x y H2 I2 rx ry q=>ho AD s2 σ H2 x y v u Q I2 rx ry q)
theorem fG{op:UnaryOp}{r:V->Hp->VK->Prop}(ho:UnR X (unaryOp op) r)(ha:PE X a ta):PE X (.UnaryOp op a pos) (tUn r ta):=by intro AD s σ H Q I h;exact UnaryOp_ (thn (ha AD s σ H _ I h) fun v s1 ⟨x,H1,I1,r1,q1⟩=>ho AD s1 σ H1 x v Q I1 r1 q1)
theorem opI{f:Value->Value->Sem Value}{C:Int->Int->Prop}{g:Int->Int->Int}(rule:∀(i j:Int)(t u:Tok)(s:Shared)(Q:Value->Shared->Prop)(E:Value->Shared->Prop),C i j->Q (.int (g i j) s.toks) { s with toks:=s.toks+1 }->wpAny (model X.prog X.w) X.A (f (.int i t) (.int j u)) Q E s) :
  OpR X f (rI C fun i j=>.int (g i j)):=by
 intro AD s σ H x y v u Q I rx ry h;obtain⟨i,j,rfl,rfl,hc,q⟩:=h;obtain⟨t,rfl⟩:=rx;obtain⟨t',rfl⟩:=ry;exact rule i j t t' s _ _ hc ⟨.int (g i j),H,I.tok _,⟨_,rfl⟩,q⟩
theorem eR{f:Value->Value->Sem Value}{g:Int->Int->Int}(rule:∀(i j:Int)(t u:Tok)(s:Shared)(Q:Value->Shared->Prop)(E:Value->Shared->Prop),Q (.int (g i j) s.toks) { s with toks:=s.toks+1 }->wpAny (model X.prog X.w) X.A (f (.int i t) (.int j u)) Q E s) :
  OpR X f (rI0 fun i j=>.int (g i j)):=by
 intro AD s σ H x y v u Q I rx ry h;obtain⟨i,j,rfl,rfl,q⟩:=h;obtain⟨t,rfl⟩:=rx;obtain⟨t',rfl⟩:=ry;exact rule i j t t' s _ _ ⟨.int (g i j),H,I.tok _,⟨_,rfl⟩,q⟩
theorem dA{f:Value->Value->Sem Value}{g:Int->Int->Bool}(rule:∀(i j:Int)(t u:Tok)(s:Shared)(Q:Value->Shared->Prop)(E:Value->Shared->Prop),Q (.bool (g i j)) s->wpAny (model X.prog X.w) X.A (f (.int i t) (.int j u)) Q E s) :
  OpR X f (rI0 fun i j=>.bl (g i j)):=by
 intro AD s σ H x y v u Q I rx ry h;obtain⟨i,j,rfl,rfl,q⟩:=h;obtain⟨t,rfl⟩:=rx;obtain⟨t',rfl⟩:=ry;exact rule i j t t' s _ _ ⟨.bl (g i j),H,I,rfl,q⟩
def fC(i j:Int):Prop:=0<j/\j<1073741824
def CMul(i j:Int):Prop:=(-(2 ^ 64)<i/\i<2 ^ 64)\/(-(2 ^ 64)<j/\j<2 ^ 64)
theorem CMul.ok{i j:Int}(h:CMul i j):IntMulOk i j:=by
 rcases h with⟨h1,h2⟩|⟨h1,h2⟩
 ·exact .of_left (intBits_le_64 h1 h2)
 ·exact .of_right (intBits_le_64 h1 h2)
theorem cb:OpR X (binaryOp .Add) (rI0 fun i j=>.int (i+j)):=eR fun _ _ _ _ _ _ _ q=>add_int q
theorem bB:OpR X (binaryOp .Sub) (rI0 fun i j=>.int (i-j)):=eR fun _ _ _ _ _ _ _ q=>sub_int q
theorem cH:OpR X (binaryOp .Mult) (rI CMul fun i j=>.int (i*j)):=opI fun _ _ _ _ _ _ _ hc q=>mul_int q hc.ok
theorem YT:OpR X (binaryOp .FloorDiv) (rI fC fun i j=>.int (i / j)):=opI fun i j _ _ _ _ _ hc q=>by
 have h1:(0:Int)<j:=hc.1;have h2:j<1073741824:=hc.2;exact floordiv_int (by lia) (by rw[Int.fdiv_eq_ediv_of_nonneg i (by lia)];exact q) (.inl (PyProof.noPylong_small (by lia)))
theorem cz:OpR X (binaryOp .Mod) (rI (fun _ j=>0<j) fun i j=>.int (i%j)):=opI fun i j _ _ _ _ _ hc q=>by
 have h1:(0:Int)<j:=hc;exact mod_int' (by lia) (by rw[Int.fmod_eq_emod_of_nonneg i (by lia)];exact q)
theorem unI{f:Value->Sem Value}{g:Int->Int}(rule:∀(i:Int)(t:Tok)(s:Shared)(Q:Value->Shared->Prop)(E:Value->Shared->Prop),Q (.int (g i) s.toks) { s with toks:=s.toks+1 }->wpAny (model X.prog X.w) X.A (f (.int i t)) Q E s) :
  UnR X f (rU fun i=>.int (g i)):=by
 intro AD s σ H x v Q I rx h;obtain⟨i,rfl,q⟩:=h;obtain⟨t,rfl⟩:=rx;exact rule i t s _ _ ⟨.int (g i),H,I.tok _,⟨_,rfl⟩,q⟩
theorem bZ:UnR X (unaryOp .USub) (rU fun i=>.int (-i)):=unI fun _ _ _ _ _ q=>neg_int q
end
def gR:V->V->Bool
 |.non,.non=>true|.non,.int _=>true|.int _,.non=>true|.non,.bl _=>true|.bl _,.non=>true|.non,.str _=>true|.str _,.non=>true
 |.int _,.int _=>true|.bl _,.bl _=>true|.str _,.str _=>true|.byt _,.byt _=>true
 |.int _,.str _=>true|.str _,.int _=>true|.bl _,.str _=>true|.str _,.bl _=>true
 |_,_=>false
def rEq:R2:=fun x y H Q=>gR x y=true/\Q (.bl (decide (x=y))) H
def rNe:R2:=fun x y H Q=>gR x y=true/\Q (.bl (!decide (x=y))) H
theorem JS{i j:Int}:decide (V.int i=V.int j)=(i==j):=by rw[Bool.eq_iff_iff];simp
theorem VD{i j:Bool}:decide (V.bl i=V.bl j)=(i==j):=by rw[Bool.eq_iff_iff];simp
theorem Sh{i j:Str}:decide (V.str i=V.str j)=(i==j):=by rw[Bool.eq_iff_iff];simp
theorem RS{i j:Array UInt8}:decide (V.byt i=V.byt j)=(i.toList==j.toList):=by rw[Bool.eq_iff_iff];cases i;cases j;simp
section
variable {X:Cx}{a b c:Expr}{ta tb tc:TE}{pos:Pos}
theorem Ap{AD:List (Addr×Obj)}{σ:St}{H:Hp}{s:Shared}{Q:VK}{k k':Bool}(I:Inv X AD σ H s)(q:Q (.bl k) H)(e:k=k'):EP X AD σ Q (.bool k') s:=by subst e;exact⟨.bl k,H,I,rfl,q⟩
theorem gD:OpR X (compareOp .Eq) rEq:=by
 intro AD s σ H x y v u Q I rx ry h;obtain⟨hs,q⟩:=h;cases x with
 |non=>
  cases rx;cases y with
  |non=>cases ry;exact PySem.EqNone.eq_none_none (Ap I q (by simp))
  |bl j=>cases ry;exact PySem.EqNone.eq_none_bool (Ap I q (by simp))
  |int j=>obtain⟨t',rfl⟩:=ry;exact PySem.EqNone.eq_none_int (Ap I q (by simp))
  |str j=>obtain⟨t',rfl⟩:=ry;exact PySem.EqNone.eq_none_str (Ap I q (by simp))
  |_=>exact absurd (show false=true from hs) Bool.false_ne_true
 |bl i=>
  cases rx;cases y with
  |non=>cases ry;exact PySem.EqNone.eq_bool_none (Ap I q (by simp))
  |bl j=>cases ry;exact eq_bool (Ap I q VD)
  |str j=>obtain⟨t',rfl⟩:=ry;exact PySem.EqMixed.eq_bool_str (Ap I q (by simp))
  |_=>exact absurd (show false=true from hs) Bool.false_ne_true
 |int i=>
  obtain⟨t,rfl⟩:=rx;cases y with
  |non=>cases ry;exact PySem.EqNone.eq_int_none (Ap I q (by simp))
  |int j=>obtain⟨t',rfl⟩:=ry;exact eq_int (Ap I q JS)
  |str j=>obtain⟨t',rfl⟩:=ry;exact PySem.EqMixed.eq_int_str (Ap I q (by simp))
  |_=>exact absurd (show false=true from hs) Bool.false_ne_true
 |str i=>
  obtain⟨t,rfl⟩:=rx;cases y with
  |non=>cases ry;exact PySem.EqNone.eq_str_none (Ap I q (by simp))
  |bl j=>cases ry;exact PySem.EqMixed.eq_str_bool (Ap I q (by simp))
  |int j=>obtain⟨t',rfl⟩:=ry;exact PySem.EqMixed.eq_str_int (Ap I q (by simp))
  |str j=>obtain⟨t',rfl⟩:=ry;exact eq_str (Ap I q Sh)
  |_=>exact absurd (show false=true from hs) Bool.false_ne_true
 |byt i=>
  obtain⟨t,rfl⟩:=rx;cases y with
  |byt j=>obtain⟨t',rfl⟩:=ry;exact PySem.W.eq_bytes (Ap I q RS)
  |_=>exact absurd (show false=true from hs) Bool.false_ne_true
 |_=>cases y<;>exact absurd (show false=true from hs) Bool.false_ne_true
theorem eP:OpR X (compareOp .NotEq) rNe:=by
 intro AD s σ H x y v u Q I rx ry h;obtain⟨hs,q⟩:=h;cases x with
 |non=>
  cases rx;cases y with
  |non=>cases ry;exact PySem.EqNone.ne_none_none (Ap I q (by simp))
  |bl j=>cases ry;exact PySem.EqNone.ne_none_bool (Ap I q (by simp))
  |int j=>obtain⟨t',rfl⟩:=ry;exact PySem.EqNone.ne_none_int (Ap I q (by simp))
  |str j=>obtain⟨t',rfl⟩:=ry;exact PySem.EqNone.ne_none_str (Ap I q (by simp))
  |_=>exact absurd (show false=true from hs) Bool.false_ne_true
 |bl i=>
  cases rx;cases y with
  |non=>cases ry;exact PySem.EqNone.ne_bool_none (Ap I q (by simp))
  |bl j=>cases ry;exact ne_bool (Ap I q (congrArg not VD))
  |str j=>obtain⟨t',rfl⟩:=ry;exact PySem.EqMixed.ne_bool_str (Ap I q (by simp))
  |_=>exact absurd (show false=true from hs) Bool.false_ne_true
 |int i=>
  obtain⟨t,rfl⟩:=rx;cases y with
  |non=>cases ry;exact PySem.EqNone.ne_int_none (Ap I q (by simp))
  |int j=>obtain⟨t',rfl⟩:=ry;exact ne_int (Ap I q (congrArg not JS))
  |str j=>obtain⟨t',rfl⟩:=ry;exact PySem.EqMixed.ne_int_str (Ap I q (by simp))
  |_=>exact absurd (show false=true from hs) Bool.false_ne_true
 |str i=>
  obtain⟨t,rfl⟩:=rx;cases y with
  |non=>cases ry;exact PySem.EqNone.ne_str_none (Ap I q (by simp))
  |bl j=>cases ry;exact PySem.EqMixed.ne_str_bool (Ap I q (by simp))
  |int j=>obtain⟨t',rfl⟩:=ry;exact PySem.EqMixed.ne_str_int (Ap I q (by simp))
  |str j=>obtain⟨t',rfl⟩:=ry;exact ne_str (Ap I q (congrArg not Sh))
  |_=>exact absurd (show false=true from hs) Bool.false_ne_true
 |byt i=>
  obtain⟨t,rfl⟩:=rx;cases y with
  |byt j=>obtain⟨t',rfl⟩:=ry;exact PySem.W.ne_bytes (Ap I q (congrArg not RS))
  |_=>exact absurd (show false=true from hs) Bool.false_ne_true
 |_=>cases y<;>exact absurd (show false=true from hs) Bool.false_ne_true
theorem eE:OpR X (compareOp .Lt) (rI0 fun i j=>.bl (decide (i<j))):=dA fun _ _ _ _ _ _ _ q=>lt_int q
theorem ah:OpR X (compareOp .LtE) (rI0 fun i j=>.bl (decide (i<=j))):=dA fun _ _ _ _ _ _ _ q=>le_int q
theorem eM:OpR X (compareOp .Gt) (rI0 fun i j=>.bl (decide (j<i))):=dA fun _ _ _ _ _ _ _ q=>gt_int q
def d7(t:TE):TT:=fun σ H Q=>t σ H fun x H'=>∃k,x=.bl k/\Q k H'
def cw(r r':R2)(ta tb tc:TE):TE:=fun σ H Q=>ta σ H fun x H1=>tb σ H1 fun y H2=>r x y H2 fun z H3=>∃k,z=.bl k ∧
 (if k=true then tc σ H3 fun w' H4=>r' y w' H4 Q else Q (.bl false) H3)
theorem Ue{op jC:CmpOp}{r r':R2}(ho:OpR X (compareOp op) r)(MG:OpR X (compareOp jC) r')(ha:PE X a ta)(hb:PE X b tb)(hc:PE X c tc)(hm:lastMarks [op,jC] [b,c]=false:=by with_unfolding_all rfl):PT X (.Compare a [op,jC] [b,c] pos) (d7 (cw r r' ta tb tc)):=by
 intro AD s σ H Q I h;refine isTrue_chain (thn (ha AD s σ H _ I h) fun v s1 ⟨x,H1,I1,r1,q1⟩=>test_link (thn (hb AD s1 σ H1 _ I1 q1) fun u s2 ⟨y,H2,I2,r2,q2⟩=>
  thn (ho AD s2 σ H2 x y v u _ I2 r1 r2 q2) fun d s3 ⟨z,H3,I3,r3,k,e,q3⟩=>?_)) hm
 subst e;cases r3;refine wpAny_truthy_bool ?_;cases k with
 |false=>
  obtain⟨k',e',q'⟩:=q3;cases e';exact ite_ff ⟨H3,I3,q'⟩
 |true=>
  refine ite_tt (test_last (thn (hc AD s3 σ H3 _ I3 q3) fun w' s4 ⟨z',H4,I4,r4,q4⟩=>thn (MG AD s4 σ H4 y z' u w' _ I4 r2 r4 q4) fun d' s5 ⟨z2,H5,I5,r5,k2,e2,q5⟩=>?_));subst e2;cases r5;exact wpAny_truthy_bool ⟨H5,I5,q5⟩
def ba(K:PySem.W.Frag)(x:V)(H:Hp)(k:Bool):Prop:=match x with
 |.non=>k=false
 |.bl b=>k=b
 |.int i=>k=(i != 0)
 |.str y=>y.length<=sizeLine/\k=((y.length:Int) != 0)
 |.byt y=>y.size<=sizeLine/\k=((y.size:Int) != 0)
 |.ref p=>(∃xs,SqL K H p xs/\k=!xs.isEmpty)\/(∃xs,SqT K H p xs/\k=!xs.isEmpty)\/∃Ad,H p=some (.dK Ad)/\k=!Ad.isEmpty
 |_=>False
theorem Qi{κ:Type}{Ad:List (κ×V)}{vs:List (κ×Value)}(r:KV Ad vs):(!vs.isEmpty)=!Ad.isEmpty:=by cases r<;>rfl
theorem K5{xs:List V}{AO:List Value}(r:Vals xs AO):(!AO.toArray.isEmpty)=!xs.isEmpty:=by cases r<;>simp
theorem KP:(sizeLine:Nat)<2 ^ 63:=by rw[sizeLine_eq];decide
theorem bp:kG X (fun x H Q=>∃k,ba X.K x H k/\Q k H):=by
 intro AD s σ H x v Q I rx h;obtain⟨k,e,q⟩:=h;have hl:=KP;have hs:sizeLine=16777216:=sizeLine_eq;cases x with
 |non=>
  cases rx;have e':k=false:=e;subst e';exact truthy_none ⟨H,I,q⟩
 |bl b=>
  cases rx;have e':k=b:=e;subst e';exact wpAny_truthy_bool ⟨H,I,q⟩
 |int i=>
  obtain⟨t,rfl⟩:=rx;have e':k=(i != 0):=e;subst e';exact PySem.P.truthy_int ⟨H,I,q⟩
 |str y=>
  obtain⟨t,rfl⟩:=rx;obtain⟨hy,e'⟩:y.length<=sizeLine/\k=((y.length:Int) != 0):=e;subst e';exact PySem.P.truthy_str (by lia) ⟨H,I.tok _,q⟩
 |byt y=>
  obtain⟨t,rfl⟩:=rx;obtain⟨hy,e'⟩:y.size<=sizeLine/\k=((y.size:Int) != 0):=e;subst e';exact PySem.W.truthy_bytes (by lia) ⟨H,I.tok _,q⟩
 |ref p=>
  cases rx;have e':(∃xs,SqL X.K H p xs/\k=!xs.isEmpty)\/(∃xs,SqT X.K H p xs/\k=!xs.isEmpty)\/∃Ad,H p=some (.dK Ad)/\k=!Ad.isEmpty:=e;rcases e' with⟨xs,hx,e'⟩|⟨xs,hx,e'⟩|⟨Ad,hx,e'⟩
  ·subst e';obtain⟨AO,r,pl,hz⟩:=I.list hx;have AY:=r.length;exact wpAny_truthy_list pl.isList (by simp only[List.size_toArray];lia) ⟨H,I.tok _,by rw[K5 r];exact q⟩
  ·subst e';obtain⟨AO,r,pl,hz⟩:=I.tuple hx;have AY:=r.length;exact truthy_tuple pl (by simp only[List.size_toArray];lia) ⟨H,I.tok _,by rw[K5 r];exact q⟩
  ·subst e';obtain⟨hz,hS,vs,r,m⟩:Ad.length<=sizeLine/\(p==sysModules)=false/\∃vs,KV Ad vs/\s.heap.DictOf (Mo X.prog X.w) p vs:=I.hok p _ hx;have AY:Ad.length=vs.length:=Paired.length r;exact wpAny_truthy_dict hS m (by lia) ⟨H,I.tok _,by rw[Qi r];exact q⟩
 |_=>exact(show False from e).elim
theorem PC(ha:PE X a ta)(he:∀whole,isTrue a X.env whole=(do let v <-whole;standAt a.pos;holding [v] (truthy v))) :
  PT X a (fun σ H Q=>ta σ H fun x H'=>∃k,ba X.K x H' k/\Q k H'):=by
 intro AD s σ H Q I h;exact isTrue_plain (thn (ha AD s σ H _ I h) fun v s1 ⟨x,H1,I1,r1,q1⟩=>bp AD s1 σ H1 x v Q I1 r1 q1) (he _)
theorem Fp{x:V}{us:List Value}(r:Vals [x] us):∃u,us=[u]/\RelV x u:=by
 cases r with
 |cons r1 r2=>cases r2;exact⟨_,rfl,r1⟩
theorem HL{x y:V}{us:List Value}(r:Vals [x,y] us):∃u w',us=[u,w']/\RelV x u/\RelV y w':=by
 cases r with
 |cons r1 r2=>
  cases r2 with
  |cons r3 r4=>cases r4;exact⟨_,_,rfl,r1,r3⟩
theorem Wl:Bi X (.builtin "abs") (fun xs H Q=>∃i,xs=[.int i]/\Q (.int (if i<0 then -i else i)) H):=by intro AD s σ H xs us Q I r h;obtain⟨i,rfl,q⟩:=h;obtain⟨u,rfl,t,rfl⟩:=Fp r;exact call_abs_int fun u tk=>⟨.int (if i<0 then -i else i),H,I.tok _,⟨_,rfl⟩,q⟩
theorem Te(hc:X.calm=true):Bi X (.builtin "max") (fun xs H Q=>∃i j,xs=[.int i,.int j]/\Q (.int (if j > i then j else i)) H):=by
 intro AD s σ H xs us Q I r h;obtain⟨i,j,rfl,q⟩:=h;obtain⟨u,w',rfl,⟨t,rfl⟩,⟨t',rfl⟩⟩:=HL r;refine max_two_ints (I.ok.hd hc) fun h' tk k=>⟨_,H,I.kept k,?_,q⟩;by_cases hj:j > i
 ·rw[if_pos hj,if_pos hj];exact⟨_,rfl⟩
 ·rw[if_neg hj,if_neg hj];exact⟨_,rfl⟩
theorem Sz(hc:X.calm=true):Bi X (.builtin "min") (fun xs H Q=>∃i j,xs=[.int i,.int j]/\Q (.int (if j<i then j else i)) H):=by
 intro AD s σ H xs us Q I r h;obtain⟨i,j,rfl,q⟩:=h;obtain⟨u,w',rfl,⟨t,rfl⟩,⟨t',rfl⟩⟩:=HL r;refine min_two_ints (I.ok.hd hc) fun h' tk k=>⟨_,H,I.kept k,?_,q⟩;by_cases hj:j<i
 ·rw[if_pos hj,if_pos hj];exact⟨_,rfl⟩
 ·rw[if_neg hj,if_neg hj];exact⟨_,rfl⟩
end
structure ObjM (h:Heap) (x dx C:Addr) (mA:Str->Option Value):Prop where
 obj:h.get? x=some (PySem.W.instObj C dx)
 ns:h.Ns1 dx mA
 ne:dx≠x
theorem TL{h:Heap}{dx:Addr}{mA:Str->Option Value}(n:h.Ns1 dx mA):∃od,h.get? dx=some od/\∀name,PySem.W.lookIn name od=some (mA name):=by
 obtain⟨o,es,ep,ho,hd,hk,_,hm⟩:=n;refine⟨o,ho,fun name=>?_⟩;have e:=hm name;unfold nsFind findBy at e;rw[<-Array.find?_toList]at e;unfold PySem.W.lookIn;rw[hd];dsimp only;split
 ·rename_i y q;rw[q]at e;exact congrArg some e
 ·rename_i q;rw[q]at e;have a:es.toList.any (·.refKey)=false:=by
   rw[List.any_eq_false];intro y hy;obtain⟨z,t,Qe⟩:=hk y (Array.mem_toList_iff.mp hy);simp[DictEntry.refKey,Qe]
  have a':¬es.toList.any (·.refKey)=true:=by rw[a];exact Bool.false_ne_true
  rw[if_neg a'];exact congrArg some e
theorem ObjM.look{h:Heap}{x dx C:Addr}{mA:Str->Option Value}(I:ObjM h x dx C mA):∃od,PySem.W.InstAt h x (PySem.W.instObj C dx) C (some od)/\∀name,PySem.W.lookIn name od=some (mA name):=let ⟨od,ho,hl⟩:=TL I.ns
 ⟨od,⟨I.obj,rfl,rfl,ho⟩,hl⟩
section
variable {P:Program}{w:World}{H H':Hp}{h h':Heap}{a C dx:Addr}{fs rE:List (Str×V)}
theorem JY(hok:HOk P w H h)(e:H a=some (.ins C dx fs)):∃mA,ObjM h a dx C mA/\(∀f,cV (fs.lookup f) (mA f))/\PySem.Within mA (fs.map (·.1))/\fs.length<=1000/\H dx=some (.own a):=by obtain⟨d,z,ne,ob,mA,n,r,q⟩:=(show ObjOk P w H h a (.ins C dx fs)from hok a _ e);exact⟨mA,⟨ob,n,ne⟩,r,q,z,d⟩
end
structure Cls (K:PySem.W.Frag) (C:Addr):Prop where
 pg:PySem.W.plainGet K C Str.empty=true
 hd:PySem.W.hasDictIn K C=true
 po:PySem.W.plainOver K C=true
 sa:PySem.W.findIn K (.ref C) "__setattr__"=some (some (.builtin "object.__setattr__"))
theorem Cls.get{K:PySem.W.Frag}{C:Addr}(c:Cls K C)(f:Str):PySem.W.plainGet K C f=true:=c.pg
section
variable {X:Cx}{AD:List (Addr×Obj)}{σ:St}{H:Hp}{s:Shared}{A:Around}{E:Value->Shared->Prop}{Q:Value->Shared->Prop}{c:Value}{b:Bool}
inductive TyOf (K:PySem.W.Frag) (H:Hp):V->Value->Prop where
 |non:TyOf K H .non (.type "NoneType")
 |bl (x:Bool):TyOf K H (.bl x) (.type "bool")
 |int (i:Int):TyOf K H (.int i) (.type "int")
 |str (x:Str):TyOf K H (.str x) (.type "str")
 |flt (x:UInt64):TyOf K H (.flt x) (.type "float")
 |lst {a:Addr} {xs:List V} (e:H a=some (.lst xs)):TyOf K H (.ref a) (.type "list")
 |frz {a:Addr} {o:Obj} {xs:List V} (e:H a=some (.frz o (.lst xs))):TyOf K H (.ref a) (.type "list")
 |tup {a:Addr} {xs:List V} (e:H a=some (.tup xs)):TyOf K H (.ref a) (.type "tuple")
 |dK {a:Addr} {Ad:List (Key×V)} (e:H a=some (.dK Ad)):TyOf K H (.ref a) (.type "dict")
 |dT {a:Addr} {Ad:List (List Key×V)} (e:H a=some (.dT Ad)):TyOf K H (.ref a) (.type "dict")
 |ins {a C dx:Addr} {fs:List (Str×V)} (e:H a=some (.ins C dx fs)) (cl:Cls K C) (ha:PySem.W.findIn K (.ref C) "__class__"=some (some (.builtin "object.__class__")))
   (hn:PySem.W.specialIn K (.builtin "object.__class__") "__get__"=some (some (.builtin "getset_descriptor.__get__"))) (m7:PySem.W.takesIn K (.builtin "object.__class__")=some true)
   (hm:PySem.W.mroIn K C (.type "object")=some true):TyOf K H (.ref a) (.ref C)
theorem Fw{x:V}{u t:Value}(I:Inv X AD σ H s)(rx:RelV x u)(ty:TyOf X.K H x t)(e:PySem.W.kitOne X.K t c=some b)(h:∀tk,Q (.bool b) { s with toks:=tk }) :
  wpAny (model X.prog X.w) A (call (.builtin "isinstance") [u,c]) Q E s:=by
 cases ty with
 |non=>cases (show u=Value.none from rx);exact PySem.W.kia_one PySem.W.kitx_none I.kIn True.intro e (fun z=>nomatch z) h
 |bl y=>cases (show u=Value.bool y from rx);exact PySem.W.kia_one PySem.W.kitx_bool I.kIn True.intro e (fun z=>nomatch z) h
 |int i=>obtain⟨t,q⟩:=(show ∃t,u=Value.int i t from rx);cases q;exact PySem.W.kia_one PySem.W.kitx_int I.kIn True.intro e (fun z=>nomatch z) h
 |str y=>obtain⟨t,q⟩:=(show ∃t,u=Value.str y t from rx);cases q;exact PySem.W.kia_one PySem.W.kitx_str I.kIn True.intro e (fun z=>nomatch z) h
 |flt y=>obtain⟨t,q⟩:=(show ∃t,u=Value.float y t from rx);cases q;exact PySem.W.kia_one PySem.W.kitx_float I.kIn True.intro e (fun z=>nomatch z) h
 |@lst a xs ea=>
  cases (show u=Value.ref a from rx);obtain⟨_,_,n,_,h1⟩:=(show ObjOk X.prog X.w H s.heap a (.lst xs)from I.hok a _ ea);exact PySem.W.kia_one PySem.W.kitx_list I.kIn ⟨_,h1,rfl⟩ e (fun z=>nomatch z) h
 |@frz a ob xs ea=>
  cases (show u=Value.ref a from rx);obtain⟨_,_,_,n,_,h1⟩:=(show ObjOk X.prog X.w H s.heap a (.frz ob (.lst xs))from I.hok a _ ea);exact PySem.W.kia_one PySem.W.kitx_list I.kIn ⟨_,h1,rfl⟩ e (fun z=>nomatch z) h
 |@tup a xs ea=>
  cases (show u=Value.ref a from rx);obtain⟨_,_,_,p⟩:=(show ObjOk X.prog X.w H s.heap a (.tup xs)from I.hok a _ ea);obtain⟨o,h1,h2,_⟩:=p;exact PySem.W.kia_one PySem.W.kitx_tuple I.kIn ⟨o,h1,h2⟩ e (fun z=>nomatch z) h
 |@dK a Ad ea=>
  cases (show u=Value.ref a from rx);obtain⟨_,_,vs,_,p⟩:=(show ObjOk X.prog X.w H s.heap a (.dK Ad)from I.hok a _ ea);obtain⟨o,es,ep,h1,h2,_⟩:=p;exact PySem.W.kia_one PySem.W.kitx_dict I.kIn ⟨o,h1,h2.1⟩ e (fun z=>nomatch z) h
 |@dT a Ad ea=>
  cases (show u=Value.ref a from rx);obtain⟨_,_,xs,_,o,es,ep,h1,h2,_⟩:=(show ObjOk X.prog X.w H s.heap a (.dT Ad)from I.hok a _ ea);exact PySem.W.kia_one PySem.W.kitx_dict I.kIn ⟨o,h1,h2.1⟩ e (fun z=>nomatch z) h
 |@ins a C dx fs ea cl ha hn m7 hm=>
  cases (show u=Value.ref a from rx);obtain⟨mA,O,_⟩:=JY I.hok ea;obtain⟨od,J,_⟩:=O.look;exact PySem.W.kia_one (PySem.W.kitx_own (cl.get _) cl.hd ha hn m7 hm) I.kIn J e (fun z=>nomatch z) h
end
structure Room (k:Nat) (A:Around):Prop where
 hd:A.handled=none
 dp:A.depth+3*k+5<recursionLimit
 un:A.units+16*k+200<cLine
theorem Room.mono{j k:Nat}{A:Around}(r:Room k A)(h:j<=k):Room j A:=⟨r.hd,by have:=r.dp;lia,by have:=r.un;lia⟩
theorem Room.deeper{k:Nat}{A:Around}(r:Room (k+1) A)(env:Env):Room k (A.deeper env):=⟨r.hd,by have:=r.dp;show A.depth+1+3*k+5<_;lia,by have:=r.un;show A.units+3+16*k+200<_;lia⟩
theorem Room.depth{k:Nat}{A:Around}(r:Room k A):A.depth<recursionLimit:=by have:=r.dp;lia
theorem Room.units{k:Nat}{A:Around}(r:Room k A):A.units+64<cLine:=by have:=r.un;lia
def lJ:TA:=fun _ H Q=>Q [] H
def eN(ta:TE)(tr:TA):TA:=fun σ H Q=>ta σ H fun x H1=>tr σ H1 fun xs H2=>Q (x::xs) H2
section
variable {X:Cx}{e:Expr}{es:List Expr}{te:TE}{t:TA}{pos:Pos}
theorem CW:PA X [] lJ:=fun _ _ _ _ H Q I h=>Calls.spliced_nil ⟨[],H,I,.nil,h⟩
theorem A7(ha:PE X e te)(hr:PA X es t)(hs:starEach (e::es) X.env=(false,eval e X.env)::starEach es X.env:=by rfl):PA X (e::es) (eN te t):=by intro pos AD s σ H Q I h;rw[hs];show wpAny _ _ (spliced ((false,eval e X.env)::backTo pos (starEach es X.env))) _ _ s;refine Calls.spliced_cons (thn (ha AD s σ H _ I h) fun u s1 ⟨x,H1,I1,r1,q1⟩=>?_);exact thn (hr pos AD s1 σ H1 _ I1 q1) fun us s2 ⟨xs,H2,I2,r2,q2⟩=>⟨x::xs,H2,I2,.cons r1 r2,q2⟩
def kS(t:TA):TE:=fun σ H Q=>t σ H fun xs H1=>xs.length<=sizeLine/\∀p,H1 p=none->Q (.ref p) (upd H1 p (.tup xs))
def jQ(t:TA):TE:=fun σ H Q=>t σ H fun xs H1=>xs.length<=sizeLine/\∀p,H1 p=none->Q (.ref p) (upd H1 p (.lst xs))
theorem cj{x1}(h:PA X es t):PE X (.Tuple es x1 pos) (kS t):=by intro AD s σ H Q I hq;refine wpAny_Tuple_spliced (thn (h pos AD s σ H _ I hq) fun us s1 ⟨xs,H1,I1,r,z,q⟩=>⟨by rw[<-r.length];exact z,?_⟩);have hf:H1 s1.heap.objs.size=none:=I1.hok.fresh (Nat.le_refl _);refine⟨.ref s1.heap.objs.size,upd H1 s1.heap.objs.size (.tup xs),I1.laid (t':=s1.toks) (fun b u e=>Heap.get?_push_of_some _ e) (Nat.le_refl _) ?_,rfl,q _ hf⟩;exact⟨z,us,r,⟨_,Heap.get?_push_size _ rfl,rfl,_,rfl⟩⟩
theorem XD(h:PA X es t):PE X (.List es pos) (jQ t):=by intro AD s σ H Q I hq;refine wpAny_List_spliced (thn (h pos AD s σ H _ I hq) fun us s1 ⟨xs,H1,I1,r,z,q⟩=>⟨by rw[<-r.length];exact z,?_⟩);have hf:H1 s1.heap.objs.size=none:=I1.hok.fresh (Nat.le_refl _);refine⟨.ref s1.heap.objs.size,upd H1 s1.heap.objs.size (.lst xs),I1.laid (t':=s1.toks) (fun b u e=>Heap.get?_push_of_some _ e) (Nat.le_refl _) ?_,rfl,q _ hf⟩;exact⟨z,us,0,r,Heap.get?_push_size _ rfl⟩
end
abbrev Sp:=List V->Hp->VK->XK->Prop
abbrev CXT:=List Env->Hp->Shared->XK->Value->Shared->Prop
structure Env0 (P:Program) (w:World) (K:PySem.W.Frag) (mg:Str->Option Value) (base:Heap) (A:Around) (outer:List Env) (s:Shared) (H:Hp):Prop where
 frames:A.frames=some outer
 mod:Mod K mg base
 bs:∀b o,base.get? b=some o->s.heap.get? b=some o/\H b=none
 bsz:base.objs.size<=s.heap.objs.size
 funs:s.heap.FunFrames base outer
 frf:∀b∈frs outer,H b=none
 hok:HOk P w H s.heap
 bare:AllBare s.gens
def CE(outer:List Env)(P:Program)(w:World)(H:Hp)(s:Shared)(Q:VK)(u:Value)(s':Shared):Prop:=∃v H',s'.os=s.os/\AllBare s'.gens/\Un (frs outer) [] H H' s.heap s'.heap/\HOk P w H' s'.heap/\RelV v u/\Q v H'
def CR(CX:CXT)(outer:List Env)(P:Program)(w:World)(H:Hp)(s:Shared)(Q:VK)(E:XK)(r:Result)(s':Shared):Prop:=match r with
 |.ok (.ret u)=>CE outer P w H s Q u s'
 |.ok _=>False
 |.error e=>CX outer H s E e s'
structure FnOk (P:Program) (w:World) (K:PySem.W.Frag) (mg:Str->Option Value) (base:Heap) (CX:CXT) (k:Nat) (f:Addr) (fd:FuncData) (ps:List Str) (sp:Sp):Prop where
 len:∀vs H Q E,sp vs H Q E->vs.length=ps.length
 run:∀(A:Around)(outer:List Env)(s:Shared)(H:Hp)(args:Args)(us:List Value)(vs:List V)(Q:VK)(E:XK),Room k A->Env0 P w K mg base A outer s H->BindsTo s fd args (ps.zip us)->Vals vs us->sp vs H Q E →
  codeAny (model P w) A (.call (.ref f) args) (CR CX outer P w H s Q E) s
section
variable {X:Cx}{AD:List (Addr×Obj)}{σ:St}{H:Hp}{s s':Shared}
theorem Inv.env0(I:Inv X AD σ H s):Env0 X.prog X.w X.K X.mg X.base X.A X.stack s H:=⟨I.ok.frames,I.ok.mod,I.bs,Nat.le_trans I.ok.bsz I.sz,I.stack,I.stkFree,I.hok,I.bare⟩
theorem Inv.after{Q:VK}{u:Value}(I:Inv X AD σ H s)(h:CE X.stack X.prog X.w H s Q u s'):EP X AD σ Q u s':=by obtain⟨v,H',os,bare,un,hok,r,q⟩:=h;obtain⟨hh,g,d,t,qA⟩:=s';obtain rfl:qA=s.os:=os;exact⟨v,H',I.call (h':=hh) (g':=g) (d':=d) (t':=t) (ch:=[]) un hok bare (fun b z=>absurd z (by simp)),r,q⟩
end
def eU(sp:Sp)(af:List V)(E:XK)(t:TA):TE:=fun σ H Q=>t σ H fun vs H1=>sp (vs++af) H1 Q E
def Binds(K:PySem.W.Frag)(fd:FuncData)(ps:List Str)(ds:List Value):Prop:=∀(s:Shared)(us:List Value),K.In s.heap->(us++ds).length=ps.length->BindsTo s fd ⟨us,[]⟩ (ps.zip (us++ds))
theorem Binds.all{K:PySem.W.Frag}{fd:FuncData}{ps:List Str}(h:∀us:List Value,us.length=ps.length->bindArgs fd ⟨us,[]⟩=pure (ps.zip us)):Binds K fd ps []:=fun s us _ hl=>by
 rw[List.append_nil]at hl ⊢;exact .of_eq (h us hl)
def QL(CX:CXT)(X:Cx)(E:XK):Prop:=∀(AD:List (Addr×Obj))(σ:St)(H:Hp)(s:Shared)(e:Value)(s':Shared),Inv X AD σ H s->CX X.stack H s E e s'->X.xe e s'
section
variable {X:Cx}{CX:CXT}{k:Nat}{f C:Addr}{fd:FuncData}{ps:List Str}{sp:Sp}{af:List V}{ds:List Value}{E:XK}{x m:Str}{p pos apos:Pos}{e o:Expr}{es:List Expr}{ta:TE}{t:TA}
theorem U7{AD:List (Addr×Obj)}{σ:St}{H:Hp}{s:Shared}{Q:VK}{us:List Value}{vs:List V}(F:FnOk X.prog X.w X.K X.mg X.base CX k f fd ps sp)(hr:Room k X.A)(hb:Binds X.K fd ps ds)(hd:Vals af ds)(hx:QL CX X E)(I:Inv X AD σ H s)(r:Vals vs us)(h:sp (vs++af) H Q E):wpAny (model X.prog X.w) X.A (call (.ref f) us) (EP X AD σ Q) X.xe s:=by
 have r2:Vals (vs++af) (us++ds):=r.append hd;have hl:(us++ds).length=ps.length:=by rw[<-r2.length];exact F.len _ _ _ _ h
 refine wpAny_call (codeAny_mono (F.run X.A X.stack s H ⟨us,[]⟩ (us++ds) (vs++af) Q E hr I.env0 (hb s us I.kIn hl) r2 h) fun r s' hq=>?_);cases r with
 |error e=>exact hx AD σ H s e s' I hq
 |ok fl=>
  cases fl with
  |ret u=>exact I.after hq
  |next=>exact False.elim hq
  |brk=>exact False.elim hq
  |cont=>exact False.elim hq
theorem SF(F:FnOk X.prog X.w X.K X.mg X.base CX k f fd ps sp)(hr:Room k X.A)(hg:Gl X x)(hm:X.mg x=some (.ref f))(hk:PySem.W.keepIn X.K (.ref f)=true)(hb:Binds X.K fd ps ds)(hd:Vals af ds)(hx:QL CX X E)(ha:PA X (e::es) t)(HJ:(x==("__debug__":Str))=false:=by decide)(he:starEach (e::es) X.env=(false,eval e X.env)::starEach es X.env:=by rfl)(hpl:(backTo pos (starEach es X.env)).any (·.1)=false:=by rfl) :
  PE X (.Call (.Name x p) (e::es) [] pos) (eU sp af E t):=by
 intro AD s σ H Q I h;refine wpAny_Call_Name_kw (Hc I hg hm ?_ HJ);refine PySem.W.callWith_K (h₀:=X.base) I.ok.mod.kin hk (thn (ha pos AD s σ H _ I h) fun us s1 ⟨vs,H1,I1,r,q⟩=>⟨I1.kIn,?_⟩) he hpl;exact U7 F hr hb hd hx I1 r q
end
structure FnScope (N P:List Str) (sc:Scope):Prop where
 kind:sc.kind=.function
 co:sc.isCoroutine=false
 gen:sc.isGenerator=false
 nd:N.Nodup
 pre:N.take P.length=P
 par:∀x∈P,sc.names.lookup x=some .local\/sc.names.lookup x=some .cell
 nofree:∀y∈sc.names,y.2≠.free
theorem Lo{kindOf:Str->Option NameKind}{x:Str}:∀{binds:List (Str×Value)}{m:Str->Option Value},(∀v,(x,v)∉binds)->bindL kindOf binds m x=m x
 |[],_,_=>rfl
 |(n,v)::r,m,h=>by
  unfold bindL;rw[Lo fun w hw=>h w (List.mem_cons_of_mem _ hw)];split
  ·have:x≠n:=by rintro rfl;exact h v List.mem_cons_self
   simp[this]
  ·rfl
theorem Lq{kindOf:Str->Option NameKind}{x:Str}:∀{binds:List (Str×Value)}{m:Str->Option Value},(∀v,(x,v)∉binds)->bindC kindOf binds m x=m x
 |[],_,_=>rfl
 |(n,v)::r,m,h=>by
  unfold bindC;rw[Lq fun w hw=>h w (List.mem_cons_of_mem _ hw)];split
  ·rfl
  ·have:x≠n:=by rintro rfl;exact h v List.mem_cons_self
   simp[this]
theorem MI{kindOf:Str->Option NameKind}{x:Str}{v:Value}:∀{P:List Str}{vs:List Value}{i:Nat}{m:Str->Option Value},P.Nodup->P[i]?=some x->vs[i]?=some v->kindOf x=some .local →
  bindL kindOf (P.zip vs) m x=some v
 |[],_,_,_,_,h,_,_=>by simp at h
 |_::_,[],_,_,_,_,h,_=>by simp at h
 |p::P,w::vs,0,m,nd,h1,h2,hk=>by
  simp at h1 h2;subst h1;subst h2;show bindL kindOf ((p,w)::P.zip vs) m p=_;unfold bindL;rw[Lo fun v hv=>(List.nodup_cons.mp nd).1 (List.of_mem_zip hv).1,if_pos hk];simp
 |p::P,w::vs,i+1,m,nd,h1,h2,hk=>by
  show bindL kindOf ((p,w)::P.zip vs) m x=_;unfold bindL;exact MI (i:=i) (List.nodup_cons.mp nd).2 (by simpa using h1) (by simpa using h2) hk
theorem Lp{kindOf:Str->Option NameKind}{x:Str}{v:Value}:∀{P:List Str}{vs:List Value}{i:Nat}{m:Str->Option Value},P.Nodup->P[i]?=some x->vs[i]?=some v->kindOf x≠some .local →
  bindC kindOf (P.zip vs) m x=some v
 |[],_,_,_,_,h,_,_=>by simp at h
 |_::_,[],_,_,_,_,h,_=>by simp at h
 |p::P,w::vs,0,m,nd,h1,h2,hk=>by
  simp at h1 h2;subst h1;subst h2;show bindC kindOf ((p,w)::P.zip vs) m p=_;unfold bindC;rw[Lq fun v hv=>(List.nodup_cons.mp nd).1 (List.of_mem_zip hv).1,if_neg hk];simp
 |p::P,w::vs,i+1,m,nd,h1,h2,hk=>by
  show bindC kindOf ((p,w)::P.zip vs) m x=_;unfold bindC;exact Lp (i:=i) (List.nodup_cons.mp nd).2 (by simpa using h1) (by simpa using h2) hk
def start(N:List Str)(vs:List V):St:=vs.map some++List.replicate (N.length-vs.length) none
def Es(CX:CXT)(P:Program)(w:World)(K:PySem.W.Frag)(mg:Str->Option Value)(base:Heap)(N:List Str)(qual:Str)(scope:Scope)(f:Addr)(cd:Value)(A:Around)(outer:List Env)(s:Shared)(H:Hp)(E:XK):Cx where
 prog:=P
 w:=w
 K:=K
 mg:=mg
 base:=base
 A:=A.deeper (envOfC qual scope s.heap.objs.size f cd)
 N:=N
 s₀:=s
 H₀:=H
 env:=envOfC qual scope s.heap.objs.size f cd
 outer:=outer
 stack:=envOfC qual scope s.heap.objs.size f cd::outer
 ex:=[]
 calm:=true
 fn:=fun _=>true
 pn:=[]
 xe:=fun e s'=>wpAny (model P w) (A.deeper (envOfC qual scope s.heap.objs.size f cd)) (leaving (envOfC qual scope s.heap.objs.size f cd) e) (fun _ dI=>CX outer H s E e dI) (fun e' dI=>CX outer H s E e' dI) s'
theorem O7{sc:Scope}{n:Nat}{x:Str}(h:sc.names.lookup x=some .cell):∃c,(cellsFrom n sc.names []).lookup x=some c:=by have q:=PySem.W.cellsFrom_some sc.names n [] (.inl h);exact Option.isSome_iff_exists.mp q
theorem Tu{CX:CXT}{P:Program}{w:World}{K:PySem.W.Frag}{mg:Str->Option Value}{base:Heap}{N ps:List Str}{qual:Str}{scope:Scope}{f:Addr}{cd:Value}{A:Around}{outer:List Env}{s s1:Shared}{H:Hp}{E:XK}{us:List Value}{vs:List V}(S:FnScope N ps scope)(hd:A.handled=none)(e0:Env0 P w K mg base A outer s H)(hl:vs.length=ps.length)(r:Vals vs us)(x:InCallC s s.heap.objs.size (bindL (envOfC qual scope s.heap.objs.size f cd).kindOf (ps.zip us) fun _=>none) (cellsFrom (s.heap.objs.size+1) scope.names []) (bindC (envOfC qual scope s.heap.objs.size f cd).kindOf (ps.zip us) fun _=>none) s1) :
  Inv (Es CX P w K mg base N qual scope f cd A outer s H E) [] (start N vs) H s1:=by
 have hpl:ps.length<=N.length:=by have:=congrArg List.length S.pre;rw[List.length_take]at this;lia
 obtain⟨h1,tk,rfl,hk⟩:=x.done;have gg:∀b:Addr,b∉(Es CX P w K mg base N qual scope f cd A outer s H E).ex:=fun b z=>absurd (show b∈([]:List Addr)from z) (by simp);refine⟨⟨e0.mod,S.kind,rfl,rfl,Nat.le_refl _,fun y z c h1 h2=>?_,fun y hy=>?_,fun y c _ h=>?_,fun _=>hd,Around.frames_deeper e0.frames,.inr ⟨rfl,rfl⟩,fun b z=>absurd z (gg b),e0.bs,e0.bsz,fun b _ _=>gg b,fun b z=>absurd z (gg b),e0.funs,e0.frf⟩,
  rfl,e0.bare,Un.kept hk,⟨_,x.toInCall.ns,fun i y v h1 h2 h3=>?_⟩,fun y c h=>⟨_,x.cell y c h⟩,e0.hok.fresh (Nat.le_refl _),fun y c h=>?_,fun p hp=>absurd (show p∈([]:List (Addr×Obj))from hp) (by simp),e0.hok.kept hk,?_⟩
 ·exact name_of_addr x.apart (PySem.mem_of_lookup h1) (PySem.mem_of_lookup h2)
 ·have hy:scope.names.lookup y=some .cell\/scope.names.lookup y=some .free:=hy;rcases hy with hy|hy
  ·exact O7 hy
  ·exact absurd rfl (S.nofree _ (PySem.mem_of_lookup hy))
 ·exact Nat.le_of_lt (x.above y c (PySem.mem_of_lookup h))
 ·have hi:i<vs.length:=by
   unfold start at h2;by_cases hi:i<vs.length
   ·exact hi
   ·rw[List.getElem?_append_right (by simpa using hi)]at h2;rw[List.getElem?_replicate]at h2;split at h2<;>cases h2
  have ha:vs[i]?=some v:=by
   unfold start at h2;rw[List.getElem?_append_left (by simpa using hi),List.getElem?_map]at h2;cases e:vs[i]? with
   |none=>rw[e]at h2;cases h2
   |some a=>rw[e]at h2;cases h2;rfl
  obtain⟨u,hu,rv⟩:=r.get ha;have hp:ps[i]?=some y:=by
   rw[<-S.pre,List.getElem?_take_of_lt (by lia)];exact h1
  have n5:ps.Nodup:=by rw[<-S.pre];exact S.nd.sublist (List.take_sublist _ _)
  refine⟨u,rv,?_⟩;rcases S.par y (List.mem_of_getElem? hp)with k|k
  ·exact .inl ⟨k,MI n5 hp hu k⟩
  ·obtain⟨c,e⟩:=O7 (n:=s.heap.objs.size+1) k;refine .inr ⟨.inl k,c,e,?_⟩;have q:=x.cell y c e;rw[Lp n5 hp hu (by show scope.names.lookup y≠_;rw[k];decide)]at q;exact q
 ·exact e0.hok.fresh (Nat.le_of_lt (x.above y c (PySem.mem_of_lookup h)))
 ·unfold start;show _=N.length;rw[List.length_append,List.length_map,List.length_replicate];lia
theorem VN{CX:CXT}{P:Program}{w:World}{K:PySem.W.Frag}{mg:Str->Option Value}{base:Heap}{k:Nat}{f:Addr}{name qual:Str}{params:Arguments}{body:List Stmt}{scope:Scope}{dV kV doc pm Aw ct oc:Value}{an od:Option Addr}{Tj:Array (Option Value)}{N ps:List Str}{sp:Sp}(lk:K.lookup f=some ⟨oc,od,.func (PySem.W.fnOf name qual params body scope dV kV doc pm an Aw ct),Tj⟩)(RB:PySem.W.codeIn K Aw qual=true)(S:FnScope N ps scope)(len:∀vs H Q E,sp vs H Q E->vs.length=ps.length)(Wd:∀(A:Around)(outer:List Env)(s:Shared)(H:Hp)(vs:List V)(Q:VK)(E:XK),Room k (A.deeper (envOfC qual scope s.heap.objs.size f Aw))->sp vs H Q E →
   ∃t,PSs (Es CX P w K mg base N qual scope f Aw A outer s H E) body t/\t { nx:=fun _ H'=>Q .non H',rt:=Q } (start N vs) H) :
  FnOk P w K mg base CX (k+1) f (PySem.W.fnOf name qual params body scope dV kV doc pm an Aw ct) ps sp:=by
 refine⟨len,fun A outer s H args us vs Q E hr e0 hb r Ur=>?_⟩;have hl:=len _ _ _ _ Ur;have KX:K.In s.heap:=e0.mod.kin.keeps fun b o e=>(e0.bs b o e).1;have lim:s.heap.NoLimit:=e0.mod.nolimit.keeps fun b o e=>(e0.bs b o e).1;have eD:∀y∈ps.zip us,scope.names.lookup y.1=some .local\/(scope.names.lookup y.1=some .cell/\((cellsFrom (s.heap.objs.size+1) scope.names []).lookup y.1).isSome=true):=fun⟨n,v⟩ hy=>by
  rcases S.par n (List.of_mem_zip hy).1 with q|q
  ·exact .inl q
  ·exact .inr ⟨q,PySem.W.cellsFrom_some _ _ _ (.inl q)⟩
 refine codeAny_call_function hr.depth (KX _ _ lk) rfl S.co S.gen rfl (PySem.W.codeRec_of KX RB) (hb _ _ _ _ ?_);refine wpAny_newFunctionEnv_cells S.kind eD fun env he s1 x=>?_;subst he;refine⟨lim.keeps x.toInCall.keep,codeAny_func ?_⟩;obtain⟨t,ht,hq⟩:=Wd A outer s H vs Q E (hr.deeper _) Ur;have I:Inv (Es CX P w K mg base N qual scope f Aw A outer s H E) [] (start N vs) H s1:=Tu S hr.hd e0 hl r x;refine wpAny_mono (ht [] s1 (start N vs) H _ I hq) (fun fl s' hs=>?_) fun e s' hs=>hs;have fin:∀{σ':St}{H':Hp}{v:V}{u:Value},Inv (Es CX P w K mg base N qual scope f Aw A outer s H E) [] σ' H' s'->RelV v u->Q v H'->CE outer P w H s Q u s':=
  fun {σ' H' v u} J rv q=>⟨v,H',J.os,J.bare,J.base,J.hok,rv,q⟩
 cases fl with
 |ret u=>
  obtain⟨v,σ',H',J,rv,q⟩:=hs;exact fin J rv q
 |next=>
  obtain⟨σ',H',J,q⟩:=hs;exact fin (v:=V.non) (u:=Value.none) J rfl q
 |brk=>
  obtain⟨_,_,_,q⟩:=hs;exact False.elim q
 |cont=>
  obtain⟨_,_,_,q⟩:=hs;exact False.elim q
section
variable {X:Cx}{x:Str}{p pos:Pos}{e:Expr}{es:List Expr}{t:TA}{id T:String}{r:List V->Hp->VK->Prop}
def tCB(r:List V->Hp->VK->Prop)(t:TA):TE:=fun σ H Q=>t σ H fun vs H1=>r vs H1 Q
theorem D0(hc:Bi X (.builtin id) r)(hg:Gl X x)(hm:X.mg x=none)(hv:bootBuiltins x=some (.builtin id))(ha:PA X (e::es) t)(hn:x≠"__name__":=by decide)(HJ:(x==("__debug__":Str))=false:=by decide)(he:starEach (e::es) X.env=(false,eval e X.env)::starEach es X.env:=by rfl)(hpl:(backTo pos (starEach es X.env)).any (·.1)=false:=by rfl):PE X (.Call (.Name x p) (e::es) [] pos) (tCB r t):=by intro AD s σ H Q I h;refine wpAny_Call_Name_kw (Cv I hg hm hv ?_ hn HJ);exact PyProof.Rows.callWith_builtin1 (thn (ha pos AD s σ H _ I h) fun us s1 ⟨vs,H1,I1,r1,q1⟩=>hc AD s1 σ H1 vs us Q I1 r1 q1) he hpl
theorem L3(hc:Bi X (.type T) r)(hg:Gl X x)(hm:X.mg x=none)(hv:bootBuiltins x=some (.type T))(ha:PA X (e::es) t)(hn:x≠"__name__":=by decide)(HJ:(x==("__debug__":Str))=false:=by decide)(he:starEach (e::es) X.env=(false,eval e X.env)::starEach es X.env:=by rfl)(hpl:(backTo pos (starEach es X.env)).any (·.1)=false:=by rfl):PE X (.Call (.Name x p) (e::es) [] pos) (tCB r t):=by intro AD s σ H Q I h;refine wpAny_Call_Name_kw (Cv I hg hm hv ?_ hn HJ);exact PyProof.Rows.callWith_type1 (thn (ha pos AD s σ H _ I h) fun us s1 ⟨vs,H1,I1,r1,q1⟩=>hc AD s1 σ H1 vs us Q I1 r1 q1) he hpl
end
end L2
namespace HT
open PySem PyProof.Rows
def lexLt:List Int->List Int->Bool
 |[],[]=>false
 |[],_::_=>true
 |_::_,[]=>false
 |x::xs,y::ys=>if x=y then lexLt xs ys else decide (x<y)
theorem lexLt_cons(x y:Int)(xs ys:List Int):lexLt (x::xs) (y::ys)=if x=y then lexLt xs ys else decide (x<y):=rfl
section
variable {prog:Program}{w:World}{A:Around}{E:Value->Shared->Prop}{s:Shared}
def sIx(n d:Nat):Option Int->Nat
 |none=>d
 |some v=>if v<0 then(v+(n:Int)).toNat else min v.toNat n
theorem sIx_none(n d:Nat):sIx n d none=d:=rfl
theorem sIx_nat(n d k:Nat):sIx n d (some (k:Int))=min k n:=by show(if (k:Int)<0 then((k:Int)+(n:Int)).toNat else min (k:Int).toNat n)=min k n;rw[if_neg (by lia),Int.toNat_natCast]
theorem bV(n d:Nat)(hd:d<=n)(o:Option Int):sIx n d o<=n:=by
 cases o with
 |none=>exact hd
 |some v=>
  show(if v<0 then(v+(n:Int)).toNat else min v.toNat n)<=n;by_cases hv:v<0
  ·rw[if_pos hv];lia
  ·rw[if_neg hv];exact Nat.min_le_right _ _
theorem SR(v:Int)(n d:Nat):(if v<0 then max (v+(n:Int)) 0 else min v (n:Int))=((sIx n d (some v):Nat):Int):=by
 show(if v<0 then max (v+(n:Int)) 0 else min v (n:Int))=(((if v<0 then(v+(n:Int)).toNat else min v.toNat n):Nat):Int);by_cases hv:v<0
 ·simp only[if_pos hv];lia
 ·simp only[if_neg hv];lia
theorem QV(lo hi:Option Int)(n:Nat):Builtin.Slice.sliceAdjust lo hi 1 (n:Int)=(((sIx n 0 lo:Nat):Int),((sIx n n hi:Nat):Int)):=by
 have h1:¬((1:Int)<0):=by lia
 unfold Builtin.Slice.sliceAdjust;simp only[h1,if_false];refine Prod.ext ?_ ?_
 ·cases lo with
  |none=>rfl
  |some v=>exact SR v n 0
 ·cases hi with
  |none=>rfl
  |some v=>exact SR v n n
theorem Q4(i j:Nat):Builtin.Slice.slicePlaces (i:Int) (j:Int) 1=j-i:=by
 unfold Builtin.Slice.slicePlaces;have h1:(1:Int) > 0:=by lia
 simp only[h1,if_true,Int.ediv_one];split<;>lia
theorem Jo{v:Value}{o:Option Int}{Q:Option Int->Shared->Prop}(p:IsPart v o)(h:Q o s):wpAny (model prog w) A (Builtin.Slice.slicePartIndex v) Q E s:=by
 cases p with
 |none=>exact slicePart_none h
 |int i t=>exact slicePart_int h
theorem sliceApplied_gen{sl:Addr}{vl vu:Value}{lo hi:Option Int}{n:Nat}{Q:Int×Int×Nat->Shared->Prop}(hs:s.heap.IsSliceOf sl vl vu .none)(pl:IsPart vl lo)(pu:IsPart vu hi)(h:Q (((sIx n 0 lo:Nat):Int),1,sIx n n hi-sIx n 0 lo) s):wpAny (model prog w) A (Builtin.Slice.sliceApplied (.ref sl) (pure (n:Int))) Q E s:=by obtain⟨os,Nq,gp,eX⟩:=id hs;unfold Builtin.Slice.sliceApplied Builtin.Slice.sliceFields;refine wpAny_bind (wpAny_bind (wpAny_field Nq eX (x:=vl) rfl (wpAny_bind (wpAny_field Nq eX (x:=vu) rfl (wpAny_bind (wpAny_field Nq eX (x:=.none) rfl (wpAny_pure ?_)))))));refine wpAny_bind (slicePart_none ?_);show wpAny _ _ (if ((1:Int)==0)=true then _ else _) _ _ s;rw[if_neg (by decide)];refine wpAny_bind (Jo pl (wpAny_bind (Jo pu (wpAny_bind (wpAny_pure ?_)))));show wpAny _ _ (match Builtin.Slice.sliceAdjust lo hi 1 (n:Int)with|(lo,hi)=>pure (lo,(1:Int),Builtin.Slice.slicePlaces lo hi 1)) _ _ s;rw[QV lo hi n];show wpAny _ _ (pure (((sIx n 0 lo:Nat):Int),(1:Int),Builtin.Slice.slicePlaces ((sIx n 0 lo:Nat):Int) ((sIx n n hi:Nat):Int) 1)) _ _ s;rw[Q4];exact wpAny_pure h
theorem We(xs:Array Value)(i k:Nat):((List.range k).filterMap fun(m:Nat)=>xs[((i:Int)+(m:Int)*1).toNat]?).toArray=((xs.toList.drop i).take k).toArray:=by
 have e:(fun(m:Nat)=>xs[((i:Int)+(m:Int)*1).toNat]?)=fun m=>xs[i+m]?:=by
  funext m;have:((i:Int)+(m:Int)*1).toNat=i+m:=by lia
  rw[this]
 rw[e]
 have:=pick_run xs i k
 rw[List.filterMap_map]at this;have e2:((fun x=>xs[x]?) ∘ fun x=>i+x)=fun m=>xs[i+m]?:=rfl;rw[e2]at this;rw[this]
theorem getItem_tuple_cut{t sl:Addr}{items:Array Value}{vl vu:Value}{lo hi:Option Int}{Q:Value->Shared->Prop}(ht:IsTup s.heap t items)(hs:s.heap.IsSliceOf sl vl vu .none)(pl:IsPart vl lo)(pu:IsPart vu hi)(hw:¬(sIx items.size 0 lo=0/\sIx items.size items.size hi=items.size))(h:Q (.ref s.heap.objs.size) { s with heap:=s.heap.push { cls:=.type "tuple",data:=.seq ((items.toList.drop (sIx items.size 0 lo)).take (sIx items.size items.size hi-sIx items.size 0 lo)).toArray } })(hsz:items.size<=sizeLine):wpAny (model prog w) A (getItem (.ref t) (.ref sl)) Q E s:=by
 have RW:sizeOk (.seq ((items.toList.drop (sIx items.size 0 lo)).take (sIx items.size items.size hi-sIx items.size 0 lo)).toArray):=by
  show((items.toList.drop (sIx items.size 0 lo)).take (sIx items.size items.size hi-sIx items.size 0 lo)).toArray.size<=sizeLine;rw[List.size_toArray,List.length_take,List.length_drop,Array.length_toList];lia
 have hj:sIx items.size items.size hi<=items.size:=bV _ _ (Nat.le_refl _) hi;obtain⟨os,Nq,gp,eX⟩:=id hs;have km:s.TypeIs (.ref sl) "slice":=⟨os,Nq,gp⟩;unfold getItem;try with_reducible refine wpAny_holding ?_
 first|refine wpAny_bind (wpAny_pure ?_)|skip
 refine wpAny_bind (wpAny_sequenceKey ht.typeIs (by decide) ?_);refine wpAny_bind (wpAny_callSpecial?_slot (name:=Str.ofString "__getitem__") ht.typeIs PyProof.Rows.slot_tuple_getitem
  (wpAny_call_entry PyProof.Rows.slot_tuple_getitem ht.typeIs entry_tuple_getitem ?_ (args_tuple_getitem _ _)))
 show wpAny _ _ (Builtin.Tuple.tupleItemsOf (.ref t) >>= _) _ _ s;refine wpAny_bind (tupleItemsOf_ ht ?_);refine wpAny_bind (wpAny_typeOf km ?_);rw[if_pos (by decide)];refine wpAny_bind (sliceApplied_gen hs pl pu ?_);have T5:¬((((sIx items.size 0 lo:Nat):Int)==0&&(1:Int)==1&&(sIx items.size items.size hi-sIx items.size 0 lo)==items.size)=true):=by
  intro q;rw[Bool.and_eq_true,Bool.and_eq_true]at q;have q1:((sIx items.size 0 lo:Nat):Int)=0:=eq_of_beq q.1.1;have q2:sIx items.size items.size hi-sIx items.size 0 lo=items.size:=eq_of_beq q.2;exact hw ⟨by lia,by lia⟩
 show wpAny _ _ (if (((sIx items.size 0 lo:Nat):Int)==0&&(1:Int)==1&&(sIx items.size items.size hi-sIx items.size 0 lo)==items.size)=true then _ else _) _ _ s;rw[if_neg T5,We];first
  |exact wpAny_bind (m:=Builtin.Tuple.tupleExact _) (wpAny_newObj_type (wpAny_pure ⟨_,rfl,wpAny_pure h⟩) RW)
  |exact wpAny_bind (m:=Builtin.Tuple.tupleExact _) (wpAny_newObj_type (wpAny_bind (wpAny_pure (wpAny_pure ⟨_,rfl,wpAny_pure h⟩))) RW)
  |exact wpAny_bind (wpAny_bind (m:=Builtin.Tuple.tupleExact _) (wpAny_newObj_type (wpAny_pure (wpAny_pure ⟨_,rfl,wpAny_pure h⟩)) RW))
  |exact wpAny_bind (wpAny_bind (m:=Builtin.Tuple.tupleExact _) (wpAny_newObj_type (wpAny_pure ⟨_,rfl,wpAny_pure h⟩) RW))
end
end HT
namespace L2
open PySem PySem.Spec PyProof.Rows
abbrev TO:=St->Hp->(Option Int->Hp->Prop)->Prop
def PO(X:Cx)(e:Option Expr)(t:TO):Prop:=∀(AD:List (Addr×Obj))(s:Shared)(σ:St)(H:Hp)(Q:Option Int->Hp->Prop),Inv X AD σ H s->t σ H Q →
  wpAny (model X.prog X.w) X.A (evalPart e X.env) (fun u s'=>∃o H',Inv X AD σ H' s'/\IsPart u o/\Q o H') X.xe s
def ZF:TO:=fun _ H Q=>Q none H
def fq(t:TE):TO:=fun σ H Q=>t σ H fun x H1=>∃i,x=.int i/\Q (some i) H1
theorem Gm{ns:List Int}:∀{us:List Value},Vals (ns.map V.int) us->IntsAre us ns:=by
 induction ns with
 |nil=>intro us r;rw[List.map_nil]at r;cases r;exact .nil
 |cons n ns ih=>
  intro us r;rw[List.map_cons]at r;cases r with
  |cons r1 r2=>
   obtain⟨t,e⟩:=r1;subst e;exact .cons n t (ih r2)
section
variable {X:Cx}{e:Expr}{te:TE}{lo hi:Option Expr}{tl th:TO}{pos p2:Pos}
theorem ZJ:PO X none ZF:=by intro AD s σ H Q I h;rw[evalPart_none];exact wpAny_pure ⟨none,H,I,.none,h⟩
theorem ZK(h:PE X e te):PO X (some e) (fq te):=by intro AD s σ H Q I hw;rw[evalPart_some];refine thn (h AD s σ H _ I hw) fun u s1 ⟨x,H1,I1,r1,q1⟩=>?_;obtain⟨i,rfl,q⟩:=q1;obtain⟨t,rfl⟩:=r1;exact⟨some i,H1,I1,.int i t,q⟩
def SlR(X:Cx)(r:V->Option Int->Option Int->Hp->VK->Prop):Prop:=∀(AD:List (Addr×Obj))(s:Shared)(σ:St)(H:Hp)(x:V)(v vl vu:Value)(lo hi:Option Int)(sl:Addr)(Q:VK),Inv X AD σ H s->RelV x v->s.heap.IsSliceOf sl vl vu .none->IsPart vl lo->IsPart vu hi->r x lo hi H Q →
  ∃T id,typeLookup (.type T) "__getitem__"=pure (some (.builtin id))/\s.TypeIs v T/\wpAny (model X.prog X.w) X.A (getItem v (.ref sl)) (EP X AD σ Q) X.xe s
def tSl(r:V->Option Int->Option Int->Hp->VK->Prop)(te:TE)(tl th:TO):TE:=fun σ H Q=>te σ H fun x H1=>tl σ H1 fun l H2=>th σ H2 fun u H3=>r x l u H3 Q
theorem VR{r:V->Option Int->Option Int->Hp->VK->Prop}(hr:SlR X r)(he:PE X e te)(hl:PO X lo tl)(hu:PO X hi th):PE X (.Subscript e (.Slice lo hi none p2) pos) (tSl r te tl th):=by intro AD s σ H Q I h;refine Subscript_ (thn (he AD s σ H _ I h) fun v s1 ⟨x,H1,I1,r1,q1⟩=>?_);refine wpAny_Slice (thn (hl AD s1 σ H1 _ I1 q1) fun vl s2 ⟨l,H2,I2,pl,q2⟩=>thn (hu AD s2 σ H2 _ I2 q2) fun vu s3 ⟨u,H3,I3,pu,q3⟩=>?_);rw[evalPart_none];refine wpAny_pure ?_;have I4:Inv X AD σ H3 { s3 with heap:=s3.heap.push { cls:=.type "slice",data:=.fields #[vl,vu,.none] } }:=I3.kept (t':=s3.toks) fun b ob q=>Heap.get?_push_of_some _ q;obtain⟨T,id,hT,ht,hg⟩:=hr AD { s3 with heap:=s3.heap.push { cls:=.type "slice",data:=.fields #[vl,vu,.none] } } σ H3 x v vl vu l u s3.heap.objs.size Q I4 r1 (Heap.IsSliceOf.new ..) pl pu q3;show wpAny (model X.prog X.w) X.A (subscriptTail e (.Slice lo hi none p2) v (.ref s3.heap.objs.size)) (EP X AD σ Q) X.xe { s3 with heap:=s3.heap.push { cls:=.type "slice",data:=.fields #[vl,vu,.none] } };exact tail_any (ops:=[.ref s3.heap.objs.size,v]) ht hT hg (by with_unfolding_all rfl)
def LZ(xs:List V)(lo hi:Option Int):List V:=(xs.drop (HT.sIx xs.length 0 lo)).take (HT.sIx xs.length xs.length hi-HT.sIx xs.length 0 lo)
theorem O8(xs:List V)(lo hi:Option Int):(LZ xs lo hi).length<=xs.length:=by unfold LZ;rw[List.length_take,List.length_drop];lia
def jm(K:PySem.W.Frag):V->Option Int->Option Int->Hp->VK->Prop:=fun x lo hi H Q=>∃a xs,x=.ref a/\SqT K H a xs ∧
 ¬(HT.sIx xs.length 0 lo=0/\HT.sIx xs.length xs.length hi=xs.length)/\∀p,H p=none->Q (.ref p) (upd H p (.tup (LZ xs lo hi)))
theorem cv:SlR X (jm X.K):=by
 intro AD s σ H x v vl vu lo hi sl Q I rx hs pl pu h;obtain⟨a,xs,rfl,hx,hw,q⟩:=h;cases rx;obtain⟨AO,r,ht,hz⟩:=I.tuple hx;have AY:AO.toArray.size=xs.length:=by rw[List.size_toArray];exact r.length.symm
 refine⟨"tuple",_,PyProof.Rows.slot_tuple_getitem.lookup,ht.typeIs,?_⟩;refine HT.getItem_tuple_cut ht hs pl pu (by rw[AY];exact hw) ?_ (by rw[AY];exact hz);rw[AY];refine⟨.ref s.heap.objs.size,_,I.laid (t':=s.toks) (o:=.tup (LZ xs lo hi)) (fun b ob q=>Heap.get?_push_of_some _ q) (Nat.le_refl _) ?_,rfl,q _ (I.hok.fresh (Nat.le_refl _))⟩;exact⟨Nat.le_trans (O8 xs lo hi) hz,_,(r.drop (HT.sIx xs.length 0 lo)).take (HT.sIx xs.length xs.length hi-HT.sIx xs.length 0 lo),IsTup.new _ _⟩
end
def ixN(n:Nat)(i:Int):Option Nat:=if 0<=i then(if i<n then some i.toNat else none)else if -(n:Int)<=i then some (i+n).toNat else none
def atI{α:Type}(xs:List α)(i:Int):Option α:=(ixN xs.length i).bind fun j=>xs[j]?
theorem Ym{n:Nat}{i:Int}{j:Nat}(h:ixN n i=some j):seqIndex? i n=some j/\j<n/\-(n:Int)<=i/\i<n:=by
 unfold ixN at h;by_cases h0:0<=i
 ·rw[if_pos h0]at h;by_cases h1:i<n
  ·rw[if_pos h1]at h;have e:i.toNat=j:=Option.some.inj h;exact⟨by rw[seqIndex_of h0 h1,e],by lia,by lia,h1⟩
  ·rw[if_neg h1]at h;cases h
 ·rw[if_neg h0]at h;by_cases h1:-(n:Int)<=i
  ·rw[if_pos h1]at h;have e:(i+n).toNat=j:=Option.some.inj h;exact⟨by rw[seqIndex_neg (by lia) h1,e],by lia,h1,by lia⟩
  ·rw[if_neg h1]at h;cases h
theorem Rl{α:Type}{xs:List α}{i:Int}{v:α}(h:atI xs i=some v):∃j,seqIndex? i xs.length=some j/\xs[j]?=some v/\j<xs.length/\-(xs.length:Int)<=i/\i<xs.length:=by
 unfold atI at h;cases e:ixN xs.length i with
 |none=>rw[e]at h;cases h
 |some j=>
  rw[e]at h;obtain⟨h1,h2,h3,h4⟩:=Ym e;exact⟨j,h1,h,h2,h3,h4⟩
theorem EV{α:Type}{xs:List α}{j:Nat}{v:α}(h:xs[j]?=some v):atI xs (j:Int)=some v:=by
 have hj:j<xs.length:=(List.getElem?_eq_some_iff.mp h).1;have e:ixN xs.length (j:Int)=some j:=by
  unfold ixN;rw[if_pos (by lia),if_pos (by lia)];simp
 unfold atI;rw[e];exact h
def IC(b:Expr):Prop:=∀o i,subscripted b false o i=operate [o,i] (getItem o i)
def IxR(X:Cx)(r:R2):Prop:=∀(value slice:Expr)(AD:List (Addr×Obj))(s:Shared)(σ:St)(H:Hp)(x y:V)(v u:Value)(Q:VK),Inv X AD σ H s->RelV x v->RelV y u->r x y H Q →
  subscripted slice false v u=operate [v,u] (getItem v u)->wpAny (model X.prog X.w) X.A (subscriptTail value slice v u) (EP X AD σ Q) X.xe s
def MtR(X:Cx)(id:String)(r:V->List V->Hp->VK->Prop):Prop:=∀(AD:List (Addr×Obj))(s:Shared)(σ:St)(H:Hp)(x:V)(xs:List V)(v:Value)(us:List Value)(Q:VK),Inv X AD σ H s->RelV x v->Vals xs us->r x xs H Q →
  wpAny (model X.prog X.w) X.A (call (.builtin id) (v::us)) (EP X AD σ Q) X.xe s
section
variable {X:Cx}{a b:Expr}{ta tb:TE}{pos:Pos}
theorem Vc{r:R2}(hr:IxR X r)(ha:PE X a ta)(hb:PE X b tb)(hs:IC b):PE X (.Subscript a b pos) (tOp r ta tb):=by intro AD s σ H Q I h;exact Subscript_ (gF ha hb I h fun v u s2 x y H2 I2 rx ry q=>hr a b AD s2 σ H2 x y v u Q I2 rx ry q (hs _ _))
def iq(K:PySem.W.Frag):R2:=fun x y H Q=>∃p xs i v,x=.ref p/\y=.int i/\SqL K H p xs/\atI xs i=some v/\Q v H
def j8(K:PySem.W.Frag):R2:=fun x y H Q=>∃p xs i v,x=.ref p/\y=.int i/\SqT K H p xs/\atI xs i=some v/\Q v H
theorem R8:IxR X (iq X.K):=by
 intro value slice AD s σ H x y v u Q I rx ry h hs;obtain⟨p,xs,i,z,rfl,rfl,hq,he,q⟩:=h;cases rx;obtain⟨t,rfl⟩:=ry;obtain⟨AO,r,pl,hz⟩:=I.list hq;obtain⟨j,h1,h2,h3,h4,h5⟩:=Rl he;obtain⟨w,ew,YC⟩:=r.get h2;have hl:=r.length;have hn:=KP;have fin:EP X AD σ Q w s:=⟨z,H,I,YC,q⟩;by_cases h0:0<=i
 ·have hj:i.toNat=j:=by
   rw[seqIndex_of h0 h5]at h1;exact Option.some.inj h1
  exact item_listR pl.isList h0 (by lia) (by rw[hj];simpa using ew) fin hs
 ·have hj:(i+(AO.toArray.size:Int)).toNat=j:=by
   rw[seqIndex_neg (by lia) h4]at h1;rw[List.size_toArray,<-hl];exact Option.some.inj h1
  exact subscriptTail_builtinR (x:=w) pl.isList.typeIs slot_list_getitem.lookup
   (wpAny_getItem_list_neg (Q:=fun r s'=>r=w/\EP X AD σ Q r s') pl.isList (by lia) (by rw[List.size_toArray]<;>lia) (by lia) (by rw[hj];simpa using ew) ⟨rfl,fin⟩) hs
theorem bQ:IxR X (j8 X.K):=by
 intro value slice AD s σ H x y v u Q I rx ry h hs;obtain⟨p,xs,i,z,rfl,rfl,hq,he,q⟩:=h;cases rx;obtain⟨t,rfl⟩:=ry;obtain⟨AO,r,pl,hz⟩:=I.tuple hq;obtain⟨j,h1,h2,h3,h4,h5⟩:=Rl he;obtain⟨w,ew,YC⟩:=r.get h2;have hl:=r.length;have hn:=KP;have fin:EP X AD σ Q w s:=⟨z,H,I,YC,q⟩;exact subscriptTail_builtinR (x:=w) pl.typeIs slot_tuple_getitem.lookup
  (getItem_tuple (j:=j) (Q:=fun r s'=>r=w/\EP X AD σ Q r s') pl (by lia) (by lia) (by rw[List.size_toArray,<-hl];exact h1) (by simpa using ew) ⟨rfl,fin⟩) hs
def Wi:V->Bool
 |.non=>true
 |.bl _=>true
 |.int _=>true
 |.str _=>true
 |_=>false
def eqV:V->V->Bool
 |.non,.non=>true
 |.bl a,.bl b=>a==b
 |.bl a,.int b=>(if a then 1 else 0)==b
 |.int a,.bl b=>a==(if b then 1 else 0)
 |.int a,.int b=>a==b
 |.str a,.str b=>a==b
 |_,_=>false
theorem bu{A:Around}{s:Shared}{y x:V}{u v:Value}(ry:RelV y u)(rx:RelV x v)(fy:Wi y=true)(fx:Wi x=true):SeqAt.EqAt A s u v (eqV y x):=by
 cases y with
 |non=>
  cases ry;cases x with
  |non=>cases rx;exact SeqAt.EqAt.same _
  |bl b=>cases rx;exact SeqAt.EqAt.none_bool b
  |int b=>obtain⟨t,rfl⟩:=rx;exact SeqAt.EqAt.none_int b t
  |str b=>obtain⟨t,rfl⟩:=rx;exact SeqAt.EqAt.none_str b t
  |_=>exact absurd (show false=true from fx) Bool.false_ne_true
 |bl a=>
  cases ry;cases x with
  |non=>cases rx;exact SeqAt.EqAt.bool_none a
  |bl b=>cases rx;exact SeqAt.EqAt.bool_bool a b
  |int b=>obtain⟨t,rfl⟩:=rx;exact SeqAt.EqAt.bool_int a b t
  |str b=>obtain⟨t,rfl⟩:=rx;exact SeqAt.EqAt.bool_str a b t
  |_=>exact absurd (show false=true from fx) Bool.false_ne_true
 |int a=>
  obtain⟨t',rfl⟩:=ry;cases x with
  |non=>cases rx;exact SeqAt.EqAt.int_none a t'
  |bl b=>cases rx;exact SeqAt.EqAt.int_bool a t' b
  |int b=>obtain⟨t,rfl⟩:=rx;exact SeqAt.EqAt.int_int a t' b t
  |str b=>obtain⟨t,rfl⟩:=rx;exact SeqAt.EqAt.int_str a t' b t
  |_=>exact absurd (show false=true from fx) Bool.false_ne_true
 |str a=>
  obtain⟨t',rfl⟩:=ry;cases x with
  |non=>cases rx;exact SeqAt.EqAt.str_none a t'
  |bl b=>cases rx;exact SeqAt.EqAt.str_bool a t' b
  |int b=>obtain⟨t,rfl⟩:=rx;exact SeqAt.EqAt.str_int a t' b t
  |str b=>obtain⟨t,rfl⟩:=rx;exact SeqAt.EqAt.str_str a t' b t
  |_=>exact absurd (show false=true from fx) Bool.false_ne_true
 |_=>exact absurd (show false=true from fy) Bool.false_ne_true
theorem MQ:Bi X (.builtin "len") (fun xs H Q=>∃p ys,xs=[.ref p]/\(SqL X.K H p ys\/SqT X.K H p ys)/\Q (.int ys.length) H):=by
 intro AD s σ H xs us Q I r h;obtain⟨p,ys,rfl,hq,q⟩:=h;obtain⟨u,rfl,rx⟩:=Fp r;cases rx;have hn:=KP;rcases hq with hq|hq
 ·obtain⟨AO,r',pl,hz⟩:=I.list hq;have AY:=r'.length;exact Calls.call_len_list pl.isList (by simp only[List.size_toArray]<;>lia) ⟨.int ys.length,H,I.tok _,⟨s.toks+1,by rw[List.size_toArray,AY]⟩,q⟩
 ·obtain⟨AO,r',pl,hz⟩:=I.tuple hq;have AY:=r'.length;exact len_tuple pl (by simp only[List.size_toArray]<;>lia) ⟨.int ys.length,H,I.tok _,⟨s.toks+1,by rw[List.size_toArray,AY]⟩,q⟩
theorem M7:Bi X (.type "list") (fun xs H Q=>∃p ys,xs=[.ref p]/\(SqL X.K H p ys\/SqT X.K H p ys)/\∀l,H l=none->Q (.ref l) (upd H l (.lst ys))):=by
 intro AD s σ H xs us Q I r h;obtain⟨p,ys,rfl,hq,q⟩:=h;obtain⟨u,rfl,rx⟩:=Fp r;cases rx;have fin:∀(AO:List Value),Vals ys AO->ys.length<=sizeLine->∀(h':Heap)(c':Nat),(∀b o',s.heap.get? b=some o'->h'.get? b=some o') →
   h'.get? s.heap.objs.size=some { cls:=.type "list",dict:=none,data:=.seq AO.toArray c',slots:=#[] }->EP X AD σ Q (.ref s.heap.objs.size) { s with heap:=h' }:=fun AO r' hz h' c' kp e=>
  ⟨.ref s.heap.objs.size,_,I.laid (t':=s.toks) kp (Nat.le_refl _) (show ObjOk X.prog X.w _ h' _ (.lst ys)from⟨hz,AO,c',r',e⟩),rfl,q _ (I.hok.fresh (Nat.le_refl _))⟩
 rcases hq with hq|hq
 ·obtain⟨AO,r',pl,hz⟩:=I.list hq;have AY:=r'.length;obtain⟨o,ho,hc,n,hd⟩:=pl.isList;exact call_list_seq p (.inl rfl) ho hc hd (fun h' c' kp e=>fin AO r' hz h' c' kp e) (by simp only[List.size_toArray]<;>lia)
 ·obtain⟨AO,r',pl,hz⟩:=I.tuple hq;have AY:=r'.length;obtain⟨o,ho,hc,n,hd⟩:=pl;exact call_list_seq p (.inr rfl) ho hc hd (fun h' c' kp e=>fin AO r' hz h' c' kp e) (by simp only[List.size_toArray]<;>lia)
theorem LP:Bi X (.type "tuple") (fun xs H Q=>∃p ys,xs=[.ref p]/\((SqL X.K H p ys/\∀l,H l=none->Q (.ref l) (upd H l (.tup ys)))\/(SqT X.K H p ys/\Q (.ref p) H))):=by
 intro AD s σ H xs us Q I r h;obtain⟨p,ys,rfl,h⟩:=h;obtain⟨u,rfl,rx⟩:=Fp r;cases rx;rcases h with⟨hq,q⟩|⟨hq,q⟩
 ·obtain⟨AO,r',pl,hz⟩:=I.list hq;have AY:=r'.length;refine call_tuple_list pl.isList (fun h' kp=>?_) (by simp only[List.size_toArray]<;>lia);have I1:Inv X AD σ H { s with heap:=h' }:=I.kept (t':=s.toks) kp;have I2:Inv X AD σ (upd H h'.objs.size (.tup ys)) { s with heap:=h'.push { cls:=.type "tuple",data:=.seq AO.toArray } }:=
   I1.laid (t':=s.toks) (fun b o e=>Heap.get?_push_of_some _ e) (Nat.le_refl _) (show ObjOk X.prog X.w _ _ _ (.tup ys)from⟨hz,AO,r',IsTup.new _ _⟩)
  exact⟨.ref h'.objs.size,_,I2,rfl,q _ (I1.hok.fresh (Nat.le_refl _))⟩
 ·obtain⟨AO,r',pl,hz⟩:=I.tuple hq;exact call_tuple_same pl ⟨.ref p,H,I,rfl,q⟩
def tyV(K:PySem.W.Frag)(T:String)(x:V)(H:Hp):Prop:=match x with
 |.str _=>T = "str"
 |.int _=>T = "int"
 |.ref p=>(T = "list"/\∃xs,SqL K H p xs)\/(T = "tuple"/\∃o,K.lookup p=some o/\o.cls=.type "tuple"/\o.dict=none) ∨
   (T = "dict"/\((∃Ad,H p=some (.dK Ad))\/∃Ad,H p=some (.dT Ad)))\/(T = "set"/\∃S n,H p=some (.set S n))
 |_=>False
theorem W5{AD:List (Addr×Obj)}{σ:St}{H:Hp}{s:Shared}{T:String}{x:V}{v:Value}(I:Inv X AD σ H s)(r:RelV x v)(ty:tyV X.K T x H) :
  s.TypeIs v T/\∀a,v=.ref a->∃ob,s.heap.get? a=some ob/\ob.dict=none:=by
 cases x with
 |str z=>
  obtain⟨t,rfl⟩:=r;cases (show T = "str" from ty);exact⟨typeIs_str s z t,fun _ e=>nomatch e⟩
 |int i=>
  obtain⟨t,rfl⟩:=r;cases (show T = "int" from ty);exact⟨typeIs_int s i t,fun _ e=>nomatch e⟩
 |ref p=>
  cases r;rcases ty with⟨rfl,xs,hq⟩|⟨rfl,o,hk,hc,hd⟩|⟨rfl,hk⟩|⟨rfl,S,n,hk⟩
  ·obtain⟨AO,_,pl,_⟩:=I.list hq;refine⟨pl.isList.typeIs,fun a e=>?_⟩;cases e;obtain⟨o,n,e,c,hd,_⟩:=pl;exact⟨o,e,hd⟩
  ·refine⟨⟨o,I.kIn p o hk,hc⟩,fun a e=>?_⟩;cases e;exact⟨o,I.kIn _ o hk,hd⟩
  ·have z:∃o,s.heap.get? p=some o/\o.ExactDict:=by
    rcases hk with⟨Ad,hk⟩|⟨Ad,hk⟩
    ·obtain⟨_,_,_,_,o,_,_,e,ex,_⟩:=I.hok p _ hk;exact⟨o,e,ex⟩
    ·obtain⟨_,_,_,_,o,_,_,e,ex,_⟩:=I.hok p _ hk;exact⟨o,e,ex⟩
   obtain⟨o,e,ex⟩:=z;refine⟨⟨o,e,ex.1⟩,fun a e2=>?_⟩;cases e2;exact⟨o,e,ex.2.1⟩
  ·obtain⟨o,_,_,_,e,ex,_⟩:=I.hok p _ hk;refine⟨⟨o,e,ex.1⟩,fun a e2=>?_⟩;cases e2;exact⟨o,e,ex.2.1⟩
 |_=>exact False.elim ty
def iW(K:PySem.W.Frag)(T:String)(r:V->List V->Hp->VK->Prop)(to:TE):TE:=fun σ H Q=>to σ H fun x H1=>tyV K T x H1/\r x [] H1 Q
def tBM(K:PySem.W.Frag)(T:String)(r:V->List V->Hp->VK->Prop)(to:TE)(t:TA):TE:=fun σ H Q=>to σ H fun x H1=>tyV K T x H1/\t σ H1 fun xs H2=>r x xs H2 Q
variable {o e:Expr}{es:List Expr}{to:TE}{t:TA}{name:Str}{apos Au:Pos}{T id:String}{r:V->List V->Hp->VK->Prop}
theorem b6(pa:PlainAttrs T)(slot:Slot T name id)(dN:typeOf (.builtin id)=pure (.type "method_descriptor"))(hm:MtR X id r)(ho:PE X o to)(Fi:attributeBase o name X.env (eval o X.env)=eval o X.env:=by rfl)(Bo:(apos.endLine==Au.line)=true:=by rfl):PE X (.Call (.Attribute o name apos) [] [] Au) (iW X.K T r to):=by intro AD s σ H Q I h;refine wpAny_Call_method0_late Fi Bo (thn (ho AD s σ H _ I h) fun v s1 ⟨x,H1,I1,r1,ty,q1⟩=>?_);obtain⟨h1,h2⟩:=W5 I1 r1 ty;exact⟨T,id,pa,slot,dN,h1,h2,Calls.callWith_builtin rfl (PySem.evalArgs_none (hm AD s1 σ H1 x [] v [] Q I1 r1 .nil q1))⟩
theorem fJ(pa:PlainAttrs T)(slot:Slot T name id)(dN:typeOf (.builtin id)=pure (.type "method_descriptor"))(hm:MtR X id r)(ho:PE X o to)(ha:PA X (e::es) t)(Fi:attributeBase o name X.env (eval o X.env)=eval o X.env:=by rfl)(cU:((backTo Au (starEach (e::es) X.env)).all (fun x=>!x.1)&&(backToKw Au (keywordEach [] X.env)).all (fun x=>x.1.isSome)
   && decide ((e::es).length+([]:List Keyword).length+(if ([]:List Keyword).isEmpty then 0 else 1)<30))=true:=by rfl)(Bo:(apos.endLine==Au.line)=true:=by rfl)(hs:starEach (e::es) X.env=(false,eval e X.env)::starEach es X.env:=by rfl)(bD:(backTo Au (starEach es X.env)).any (·.1)=false:=by rfl) :
  PE X (.Call (.Attribute o name apos) (e::es) [] Au) (tBM X.K T r to t):=by
 intro AD s σ H Q I h;refine wpAny_Call_method_late Fi cU Bo rfl (thn (ho AD s σ H _ I h) fun v s1 ⟨x,H1,I1,r1,ty,q1⟩=>?_);obtain⟨h1,h2⟩:=W5 I1 r1 ty;refine⟨T,id,pa,slot,dN,h1,h2,?_⟩;have hA:=ha Au AD s1 σ H1 _ I1 q1;rw[hs]at hA ⊢;refine Calls.callWith_builtin (by show(false||(backTo Au (starEach es X.env)).any (·.1))=false;rw[bD]<;>rfl) (Calls.evalArgs_plain ?_);exact thn hA fun us s2 ⟨vs,H2,I2,r2,q2⟩=>hm AD s2 σ H2 x vs v us Q I2 r1 r2 q2
end
def MtM(X:Cx)(id:String)(r:V->List V->Hp->VK->Prop):Prop:=∀(AD:List (Addr×Obj))(s:Shared)(σ:St)(H:Hp)(x:V)(xs:List V)(v:Value)(us:List Value)(Q:VK),Inv X AD σ H s->RelV x v->Vals xs us->r x xs H Q →
  wpAny (model X.prog X.w) X.A (call (.builtin id) (v::us)) (EP X AD σ Q) X.xe s
theorem Vals.one:∀{x:V}{us:List Value},Vals [x] us->∃u,us=[u]/\RelV x u
 |_,_,.cons r .nil=>⟨_,rfl,r⟩
theorem Vals.zero:∀{us:List Value},Vals [] us->us=[]
 |_,.nil=>rfl
theorem Vals.dropLast{xs:List V}{us:List Value}(h:Vals xs us):Vals xs.dropLast us.dropLast:=by
 induction h with
 |nil=>exact .nil
 |cons r t ih=>
  cases t with
  |nil=>exact .nil
  |cons q t'=>exact .cons r ih
theorem Qq{α:Type}(l:List α):l.eraseIdx (l.length-1)=l.dropLast:=by
 induction l with
 |nil=>rfl
 |cons a r ih=>
  cases r with
  |nil=>rfl
  |cons b r=>
   have e:(a::b::r).length-1=((b::r).length-1)+1:=by
    have h1:(a::b::r).length=r.length+2:=rfl;have h2:(b::r).length=r.length+1:=rfl;lia
   rw[e,List.eraseIdx_cons_succ,ih];all_goals rfl
section
variable {X:Cx}{AD:List (Addr×Obj)}{σ:St}{H:Hp}{s:Shared}{l b:Addr}{xs ys zs:List V}
theorem Inv.lset{AO its':List Value}{n:Nat}{f:Array Value->Array Value}{t':Nat}(I:Inv X AD σ H s)(hH:H l=some (.lst xs))(e:s.heap.get? l=some { cls:=.type "list",data:=.seq AO.toArray n })(hf:f AO.toArray=its'.toArray)(hv:Vals ys its')(hz:ys.length<=sizeLine) :
  Inv X AD σ (upd H l (.lst ys)) { s with heap:=s.heap.update l (Obj.mapSeq f),toks:=t' }:=by
 have q:=PySem.IsL.update e f;rw[hf]at q;refine I.write (x:=l) (e:=l) (by rw[hH];exact trivial) (.inl rfl) (fun b' u hb hu=>(Heap.get?_update_other s.heap (Obj.mapSeq f) (Ne.symm hb)).trans hu) ⟨_,q⟩ ?_;exact⟨hz,its',_,hv,q⟩
theorem Inv.lnew{AO:List Value}{t':Nat}(I:Inv X AD σ H s)(hv:Vals ys AO)(hz:ys.length<=sizeLine) :
  Inv X AD σ (upd H s.heap.objs.size (.lst ys)) { s with heap:=s.heap.push { cls:=.type "list",data:=.seq AO.toArray },toks:=t' }:=
 I.laid (fun _ _ q=>Heap.get?_push_of_some _ q) (Nat.le_refl _) ⟨hz,AO,0,hv,Heap.get?_push_size _ rfl⟩
theorem Inv.fresh(I:Inv X AD σ H s):H s.heap.objs.size=none:=I.hok.fresh (Nat.le_refl _)
theorem Inv.lstM(I:Inv X AD σ H s)(hH:H l=some (.lst xs)):xs.length<=sizeLine/\∃(AO:List Value)(n:Nat),Vals xs AO/\xs.length=AO.length/\s.heap.get? l=some { cls:=.type "list",data:=.seq AO.toArray n }:=by obtain⟨z,AO,n,r,e⟩:=I.hok l _ hH;exact⟨z,AO,n,r,r.length,e⟩
end
section
variable {X:Cx}
def X9:V->List V->Hp->VK->Prop:=fun x vs H Q=>∃l xs y,x=.ref l/\vs=[y]/\H l=some (.lst xs)/\xs.length<sizeLine/\Q .non (upd H l (.lst (xs++[y])))
theorem L8:MtM X "list.append" X9:=by intro AD s σ H x vs v us Q I rx rv h;obtain⟨l,xs,y,rfl,rfl,hH,hz,q⟩:=h;cases rx;obtain⟨u,rfl,ru⟩:=rv.one;obtain⟨z,AO,n,r,hl,e⟩:=I.lstM hH;refine call_meets F.slot_list_append ⟨_,e,rfl⟩ F.entry_list_append (F.args_list_append_2 _ _) (PySem.list_append l AO.toArray n u (by rw[List.size_toArray];lia)) ⟨e,?_⟩;refine⟨.non,_,I.lset (its':=AO++[u]) hH e (by simp) (r.append (.cons ru .nil)) ?_,rfl,q⟩;rw[List.length_append,List.length_singleton];lia
def i8:V->List V->Hp->VK->Prop:=fun x vs H Q=>∃l xs y,x=.ref l/\vs=[]/\H l=some (.lst xs)/\xs[xs.length-1]?=some y/\Q y (upd H l (.lst xs.dropLast))
theorem bT:MtM X "list.pop" i8:=by
 intro AD s σ H x vs v us Q I rx rv h;obtain⟨l,xs,y,rfl,rfl,hH,hy,q⟩:=h;cases rx;have g7:=rv.zero;subst g7;obtain⟨z,AO,n,r,hl,e⟩:=I.lstM hH;obtain⟨u,hu,ru⟩:=r.get hy;have WR:AO.toArray[AO.toArray.size-1]?=some u:=by
  show AO.toArray[AO.length-1]?=some u;rw[<-Array.getElem?_toList,<-hl];exact hu
 refine call_meets F.slot_list_pop ⟨_,e,rfl⟩ F.entry_list_pop (F.args_list_pop_1 _) (MeetsSeq.list_pop_last l AO.toArray n u WR (by rw[List.size_toArray];lia)) ⟨e,?_⟩;refine⟨y,_,I.lset (its':=AO.dropLast) hH e ?_ r.dropLast ?_,ru,q⟩
 ·show AO.toArray.eraseIdxIfInBounds (AO.toArray.size-1)=AO.dropLast.toArray;rw[List.size_toArray,List.eraseIdxIfInBounds_toArray,Qq]
 ·rw[List.length_dropLast];lia
def jZ:R2:=fun x y H Q=>∃l b xs zs,x=.ref l/\y=.ref b/\H l=some (.lst xs)/\H b=some (.lst zs)/\xs.length+zs.length<=sizeLine/\∀p,H p=none->Q (.ref p) (upd H p (.lst (xs++zs)))
theorem Vx:OpR X (binaryOp .Add) jZ:=by
 intro AD s σ H x y v u Q I rx ry h;obtain⟨l,b,xs,zs,rfl,rfl,hH,hB,hz,q⟩:=h;cases rx;cases ry;obtain⟨z,AO,n,r,hl,e⟩:=I.lstM hH;obtain⟨z2,Mt,n2,r2,Tx,e2⟩:=I.lstM hB;refine PySem.P.add_list e e2 ?_ (by rw[List.size_toArray,List.size_toArray];lia);have ea:AO.toArray++Mt.toArray=(AO++Mt).toArray:=by simp
 rw[ea];exact⟨.ref _,_,I.lnew (t':=s.toks) (r.append r2) (by rw[List.length_append];lia),rfl,q _ I.fresh⟩
end
end L2
namespace Att
open PySem PySem.W PySem.Calls PyProof.Rows
theorem JO{P:Params}{h:Heap}:∀(ns:List Int)(vs:List Value),WellAll P h vs (ns.map WData.int)->IntsAre vs ns:=by
 intro ns
 induction ns with
 |nil=>
  intro vs w;rw[List.map_nil]at w;cases w;exact .nil
 |cons n ns ih=>
  intro vs w;rw[List.map_cons]at w;cases w with
  |cons a b=>
   cases a;exact .cons _ _ (ih _ b)
theorem UH{l:OpenLaw}{n:Nat}(hn:l.most=some n){P:Params}{h:Heap}{args:List WData}{vals:List Value}(NH:l.row.toRowW.claim.pre args=true)(iw:WellAll P h vals args) :
  ∃a vs ns,vals=[Value.ref a]/\args=[WData.list (ns.map WData.int)]/\h.get? a=some { cls:=.type "list",data:=.seq vs.toArray }/\IntsAre vs ns/\ns.length<=n:=by
 have gj:WShape.hasAll [] args [.list .int]=true:=(pre_splitW NH).1;have hc:l.pre.holds [] { args:=args }=true:=(pre_splitW NH).2;obtain⟨d,r,rfl,h1,h2⟩:=hasAllW_cons gj;obtain rfl:=hasAllW_nil h2;obtain⟨xs,rfl,h3⟩:=hasW_list h1;obtain⟨ns,rfl⟩:=items_int h3;have AY:ns.length<=n:=by
  unfold OpenLaw.pre at hc;have h4:(WTm.not (.lt (.lit (.int (n:Int))) (.len (.arg 0)))).holds [] { args:=[.list (ns.map .int)] }=true:=by
   have h4:=(holds_andW hc).1;rw[hn]at h4;exact h4
  have h5:=condW_of h4 (w_not (w_lt w_lit (w_len_list (w_arg rfl))));rw[List.length_map]at h5;refine Nat.le_of_not_lt fun q=>?_;have q':(n:Int)<((ns.length:Nat):Int):=by lia
  first
   |(rw[decide_eq_true q']at h5;exact absurd h5 (by decide))
   |(simp at h5;lia)
 cases iw with
 |cons w1 w2=>
  cases w2;cases w1 with
  |list ho Dj=>exact⟨_,_,ns,rfl,rfl,ho,JO ns _ Dj,AY⟩
theorem Tr(l:OpenLaw)(args:List WData):l.row.toRowW.claim.post args (.bool true) args=true:=postW_of (r:=l.row.toRowW) (X:=(true==true))
  (show WShape.has [] (.bool true) .bool=true by first|rfl|decide|simp[WShape.has,WShape.arms,WShape.armsAll])
  (show(WTm.eq .res (.lit (.bool true))).value [] { args:=args,res:=some (.bool true),after:=args }=some (.bool (true==true))from w_eq_bool (w_res rfl) w_lit) rfl
theorem attach_call{l:OpenLaw}{n:Nat}{q:Program}{loose:List Str}{XP:(Str->Option Value)->Heap->Prop}{YP:World->Heap->Prop}{d:DefRec}(hn:l.most=some n)(d6:d.params.defaults=[])(call:∀(w:World)(s₀ s₁:Shared)(mg mb:Str->Option Value)(fa:Addr)(o:Obj)(pm cd doc:Value)(a:Addr)(vs:List Value)(ns:List Int),
   Ground q loose [] XP w s₀ mg mb s₁.heap->YP w s₁.heap →
   s₁.heap.get? fa=some o->o.data=.func (docDef d.name d.params d.body d.scope pm cd doc)->s₁.heap.CodeRec cd d.name->mg d.name=some (.ref fa) →
   s₁.heap.get? a=some { cls:=.type "list",data:=.seq vs.toArray }->IntsAre vs ns->ns.length<=n->s₁.gens=#[] →
   codeAny (model l.prog w) callerA (.call (.ref fa) ⟨[.ref a],[]⟩) (fun r s'=>r=.ok (.ret (.bool true))/\OldK s₁.heap s'.heap/\s'.os=s₁.os/\AllBare s'.gens) s₁) :
  WalkO q loose XP YP l.row.toRowW d [] (fun f vs=>PySem.call f vs):=by
 intro w s₀ s₁ mg mb G Y fa o pm cd doc dV kV ho hd RB hD Qx hg args vals as NH qF rz iw qa;obtain rfl:dV=.none:=Dflts.none hD d6;obtain rfl:kV=.none:=Dflts.noKw hD;obtain⟨a,vs,ns,rfl,rfl,cu,hints,AY⟩:=UH hn NH iw;refine enter_call (codeAny_mono (call w s₀ s₁ mg mb fa o pm cd doc a vs ns G Y ho (fd_plain hd) RB Qx cu hints AY hg) fun r s' hq=>?_);obtain⟨rfl,h2,h3,h4⟩:=hq;exact⟨.inl ⟨.bool true,.bool true,[],rfl,fun _=>rfl,.bool true,Tr l _,fun _=>⟨List.Pairwise.nil,fun _ hm=>(nomatch hm)⟩⟩,h2,h3,h4⟩
end Att
namespace L2
open PySem PySem.Spec PyProof.Rows
theorem L5:∀{vs:List Value}{ns:List Int},IntsAre vs ns->Vals (ns.map V.int) vs
 |_,_,.nil=>.nil
 |_,_,.cons n t h=>.cons ⟨t,rfl⟩ (L5 h)
def cN(H:Hp):Prop:=∀b,H b=none\/∃o xs,H b=some (.frz o (.lst xs))
theorem Uk{P:Program}{w:World}{K:PySem.W.Frag}{mg mb:Str->Option Value}{CX:CXT}{k:Nat}{fa a:Addr}{fd:FuncData}{x:Str}{sp:Sp}{s₁:Shared}{vs:List Value}{ns:List Int}(KX:K.In s₁.heap)(Nk:s₁.heap.Ns mainGlobals mg)(hb:s₁.heap.Ns builtinsNs mb)(rH:∀x:Str,x≠"__name__"->mb x=bootBuiltins x)(j4:s₁.heap.NoLimit)(hg:s₁.gens=#[])(ha:s₁.heap.get? a=some { cls:=.type "list",data:=.seq vs.toArray })(hi:IntsAre vs ns)(hl:ns.length<=sizeLine)(hr:Room k callerA)(F:∀base:Heap,K.In base->base.Ns mainGlobals mg->FnOk P w K mg base CX k fa fd [x] sp)(gJ:∀(s:Shared)(u:Value),BindsTo s fd ⟨[u],[]⟩ [(x,u)])(Ur:∀H:Hp,cN H->SqL K H a (ns.map V.int)->sp [.ref a] H (fun v _=>v=.bl true) fun _ _ _=>False)(jx:∀H e s',CX [] H s₁ (fun _ _ _=>False) e s'->False) :
  codeAny (model P w) callerA (.call (.ref fa) ⟨[.ref a],[]⟩) (fun r s'=>r=.ok (.ret (.bool true))/\OldK s₁.heap s'.heap/\s'.os=s₁.os/\AllBare s'.gens) s₁:=by
 have rv:=L5 hi;have jJ:=hi.length;have core:∀H:Hp,cN H->SqL K H a (ns.map V.int)->HOk P w H s₁.heap->(∀b,H b≠none->b=a)->(H a≠none->K.lookup a=none) →
   codeAny (model P w) callerA (.call (.ref fa) ⟨[.ref a],[]⟩) (fun r s'=>r=.ok (.ret (.bool true))/\OldK s₁.heap s'.heap/\s'.os=s₁.os/\AllBare s'.gens) s₁:=by
  intro H hO hS hok hA hK;have SG:∀{b:Addr}{o:Obj},s₁.heap.get? b=some o->H b=none->(M3 s₁.heap H).get? b=some o:=fun e n=>Vr e n;have gg:∀{b:Addr}{o:Obj}{es:Array DictEntry}{ep:Nat},s₁.heap.get? b=some o->o.data=.dict es ep->H b=none:=fun {b o es ep} e d=>by
   cases q:H b with
   |none=>rfl
   |some u=>
    have e':b=a:=hA b (by rw[q];simp);subst e';rw[ha]at e;cases e;have d':Data.seq vs.toArray _=Data.dict es ep:=d;cases d'
  have iC:∀{b:Addr}{m:Str->Option Value},s₁.heap.Ns b m->(M3 s₁.heap H).Ns b m:=fun {b m} ⟨o,es,ep,e,d,r⟩=>⟨o,es,ep,SG e (gg e d),d,r⟩;have lY:K.In (M3 s₁.heap H):=fun b o e=>SG (KX b o e) (by
   cases q:H b with
   |none=>rfl
   |some u=>
    have e':b=a:=hA b (by rw[q];simp);subst e';rw[hK (by rw[q];simp)]at e;cases e)
  have hM:Mod K mg (M3 s₁.heap H):=⟨lY,iC Nk,⟨mb,iC hb,rH⟩,let ⟨mc,h1,h2⟩:=j4;⟨mc,iC h1,h2⟩⟩;have e0:Env0 P w K mg (M3 s₁.heap H) callerA [] s₁ H:=⟨rfl,hM,fun b o e=>YD e,Nat.le_of_eq (UD _ _),trivial,fun b hb=>absurd (show b∈([]:List Addr)from hb) (by simp),hok,.of_eq hg⟩;refine codeAny_mono ((F _ lY (iC Nk)).run callerA [] s₁ H ⟨[.ref a],[]⟩ [.ref a] [.ref a] _ _ hr e0 (gJ s₁ (.ref a)) (.cons rfl .nil) (Ur H hO hS)) fun r s' h=>?_;cases r with
  |error e=>exact(jx H e s' h).elim
  |ok fl=>
   cases fl with
   |next=>exact False.elim h
   |brk=>exact False.elim h
   |cont=>exact False.elim h
   |ret u=>
    obtain⟨v,H',os,bare,un,iM,r',q⟩:=h;have q':v=.bl true:=q;subst q';obtain rfl:u=Value.bool true:=r';refine⟨rfl,OldK.of_keep fun b o e=>?_,os,bare⟩;cases q:H b with
    |none=>exact un.keep b o e q (by intro z;exact absurd (show b∈([]:List Addr)from z) (by simp)) (by simp)
    |some u=>
     rcases hO b with z|⟨ob,xs,z⟩
     ·rw[q]at z;cases z
     ·have z2:=un.frzs b ob _ z;obtain⟨e1,_⟩:=hok b _ z;obtain⟨e2,_⟩:=iM b _ z2;rw[e]at e1;cases e1;exact e2
 cases hk:K.lookup a with
 |some o=>
  have e:=KX a o hk;rw[ha]at e;cases e;refine core (fun _=>none) (fun _=>.inl rfl) (.inr ⟨_,vs.toArray,_,hk,rfl,rfl,rfl,by rw[List.size_toArray,jJ];exact hl,by simpa using rv⟩) (fun b u z=>by have z':(none:Option HO)=some u:=z;cases z') (fun b z=>absurd rfl z) fun z=>absurd rfl z
 |none=>
  refine core (fun b=>if b=a then some (.frz { cls:=.type "list",data:=.seq vs.toArray } (.lst (ns.map V.int)))else none) (fun b=>?_) (.inl (.inr ⟨{ cls:=.type "list",data:=.seq vs.toArray },if_pos rfl⟩)) (fun b u z=>?_) (fun b z=>?_) fun _=>hk
  ·by_cases hb:b=a
   ·exact .inr ⟨_,_,if_pos hb⟩
   ·exact .inl (if_neg hb)
  ·by_cases hb:b=a
   ·have z':=(if_pos hb).symm.trans z;cases z';subst hb;exact⟨ha,by rw[List.length_map];exact hl,vs,_,rv,ha⟩
   ·have z':=(if_neg hb).symm.trans z;cases z'
  ·by_cases hb:b=a
   ·exact hb
   ·exact absurd (if_neg hb) z
theorem walk_of{l:PySem.W.OpenLaw}{n k:Nat}{q:Program}{loose:List Str}{XP:(Str->Option Value)->Heap->Prop}{YP:World->Heap->Prop}{d:DefRec}{K:Params->PySem.W.Frag}{CX:World->CXT}{sp:World->Sp}{x:Str}(hn:l.most=some n)(aq:n<=sizeLine)(d6:d.params.defaults=[])(hr:Room k callerA)(hY:∀(w:World)(h:Heap),YP w h->(K w.params).In h)(F:∀(w:World)(mg:Str->Option Value)(fa:Addr)(h:Heap),(K w.params).In h->h.Ns mainGlobals mg->mg d.name=some (.ref fa) →
   ∃fd:FuncData,(∀(s:Shared)(u:Value),BindsTo s fd ⟨[u],[]⟩ [(x,u)]) ∧
    ∀base:Heap,(K w.params).In base->base.Ns mainGlobals mg->FnOk l.prog w (K w.params) mg base (CX w) k fa fd [x] (sp w))(Ur:∀(w:World)(H:Hp)(a:Addr)(ns:List Int),ns.length<=n->cN H->SqL (K w.params) H a (ns.map V.int)->sp w [.ref a] H (fun v _=>v=.bl true) fun _ _ _=>False)(jx:∀(w:World)(H:Hp)(s:Shared)(e:Value)(s':Shared),CX w [] H s (fun _ _ _=>False) e s'->False) :
  PySem.W.WalkO q loose XP YP l.row.toRowW d [] (fun f vs=>PySem.call f vs):=by
 refine Att.attach_call hn d6 fun w s₀ s₁ mg mb fa o pm cd doc a vs ns G Y ho hd RB Qx cu hints AY hg=>?_;have KX:=hY w _ Y;obtain⟨fd,hb,hF⟩:=F w mg fa _ KX G.T.g Qx;exact Uk KX G.T.g G.T.b G.T.builtins G.T.nolimit hg cu hints (Nat.le_trans AY aq) hr hF hb (fun H hO hS=>Ur w H a ns AY hO hS) fun H e s'=>jx w H s₁ e s'
abbrev CX0:CXT:=fun _ _ _ _ _ _=>False
abbrev E0:XK:=fun _ _ _=>False
theorem Uy{X:Cx}:QL CX0 X E0:=fun _ _ _ _ _ _ _ h=>h.elim
structure Fun (K:PySem.W.Frag) (x qual:Str) (st:Stmt) (f:Addr) (fd:FuncData):Prop where
 ex:∃(oc:Value)(od:Option Addr)(kV doc pm:Value)(an:Option Addr)(Aw ct:Value)(Tj:Array (Option Value)),
  fd=PySem.W.fnOf x qual (C3 st) (BM st) (AF st) .none kV doc pm an Aw ct/\K.lookup f=some ⟨oc,od,.func fd,Tj⟩/\PySem.W.codeIn K Aw qual=true
 kp:PySem.W.keepIn K (.ref f)=true
section
variable {P:Program}{w:World}{K:PySem.W.Frag}{mg:Str->Option Value}{base:Heap}
theorem Fun.ok{x qual:Str}{st:Stmt}{f:Addr}{fd:FuncData}{N ps:List Str}{k:Nat}{sp:Sp}(F:Fun K x qual st f fd)(S:FnScope N ps (AF st))(len:∀vs H Q E,sp vs H Q E->vs.length=ps.length)(Wd:∀(Aw:Value)(A:Around)(outer:List Env)(s:Shared)(H:Hp)(vs:List V)(Q:VK)(E:XK),Room k (A.deeper (envOfC qual (AF st) s.heap.objs.size f Aw))->sp vs H Q E →
   ∃t,PSs (Es CX0 P w K mg base N qual (AF st) f Aw A outer s H E).nox (BM st) t/\t { nx:=fun _ H'=>Q .non H',rt:=Q } (start N vs) H):FnOk P w K mg base CX0 (k+1) f fd ps sp:=by
 obtain⟨oc,od,kV,doc,pm,an,Aw,ct,Tj,rfl,lk,RB⟩:=F.ex;refine VN lk RB S len fun A outer s H vs Q E hr Ur=>?_;obtain⟨t,h,q⟩:=Wd Aw A outer s H vs Q E hr Ur;exact⟨t,h.nox,q⟩
theorem Fun.binds{x qual:Str}{st:Stmt}{f:Addr}{fd:FuncData}{ps:List Str}(F:Fun K x qual st f fd)(h:∀(kV doc pm:Value)(an:Option Addr)(Aw ct:Value)(us:List Value),us.length=ps.length->bindArgs (PySem.W.fnOf x qual (C3 st) (BM st) (AF st) .none kV doc pm an Aw ct) ⟨us,[]⟩=pure (ps.zip us)):Binds K fd ps []:=by obtain⟨oc,od,kV,doc,pm,an,Aw,ct,Tj,rfl,lk,RB⟩:=F.ex;exact .all (h kV doc pm an Aw ct)
theorem bM{x qual:Str}{st:Stmt}{f:Addr}{oc:Value}{od an:Option Addr}{Tj:Array (Option Value)}{kV doc pm Aw ct:Value}(l:K.lookup f=some ⟨oc,od,.func (PySem.W.fnOf x qual (C3 st) (BM st) (AF st) .none kV doc pm an Aw ct),Tj⟩)(c:PySem.W.codeIn K Aw qual=true)(k:PySem.W.keepIn K (.ref f)=true):Fun K x qual st f (PySem.W.fnOf x qual (C3 st) (BM st) (AF st) .none kV doc pm an Aw ct):=⟨⟨oc,od,kV,doc,pm,an,Aw,ct,Tj,rfl,l,c⟩,k⟩
end
theorem Ia{n:Nat}(h:n<=1000):n<sizeLine:=Nat.lt_of_le_of_lt h (by decide)
def Same(H H':Hp):Prop:=∀b o,H b=some o->H' b=some o
theorem Same.seq{K:PySem.W.Frag}{H H':Hp}{a:Addr}{xs:List V}(e:Same H H')(h:SqL K H a xs):SqL K H' a xs:=by
 rcases h with(h|⟨o,h⟩)|h
 ·exact .inl (.inl (e _ _ h))
 ·exact .inl (.inr ⟨o,e _ _ h⟩)
 ·exact .inr h
end L2
namespace TF
open PySem PySem.Spec L2
open PyProof.Rows hiding St RelV
inductive Dat where
 |non|bl (b:Bool)|int (i:Int)|str (x:Str)|fn (a:Addr)|scr (ns:List Int)|tup (l:List Dat)|lst (l:List Dat)
mutual
def Rep(K:PySem.W.Frag)(H:Hp):Dat->V->Prop
 |.non,v=>v=.non
 |.bl b,v=>v=.bl b
 |.int i,v=>v=.int i
 |.str x,v=>v=.str x
 |.fn a,v=>v=.ref a
 |.scr ns,v=>∃a,v=.ref a/\SqL K H a (ns.map V.int)
 |.tup l,v=>∃a vs,v=.ref a/\SqT K H a vs/\RepL K H l vs
 |.lst l,v=>∃a vs,v=.ref a/\H a=some (.lst vs)/\RepL K H l vs
def RepL(K:PySem.W.Frag)(H:Hp):List Dat->List V->Prop
 |[],vs=>vs=[]
 |d::ds,vs=>∃v r,vs=v::r/\Rep K H d v/\RepL K H ds r
end
theorem An{K:PySem.W.Frag}{H H':Hp}{a:Addr}{xs:List V}(e:Same H H')(h:SqT K H a xs):SqT K H' a xs:=by
 rcases h with(h|⟨o,h⟩)|h
 ·exact .inl (.inl (e _ _ h))
 ·exact .inl (.inr ⟨o,e _ _ h⟩)
 ·exact .inr h
mutual
theorem Rep.same{K:PySem.W.Frag}{H H':Hp}(e:Same H H'):∀{d:Dat}{v:V},Rep K H d v->Rep K H' d v
 |.non,_,h=>by simpa[Rep]using h
 |.bl _,_,h=>by simpa[Rep]using h
 |.int _,_,h=>by simpa[Rep]using h
 |.str _,_,h=>by simpa[Rep]using h
 |.fn _,_,h=>by simpa[Rep]using h
 |.scr _,_,h=>by
  obtain⟨a,h1,h2⟩:=(by simpa[Rep]using h:∃a,_=V.ref a/\SqL K H a _);rw[Rep];exact⟨a,h1,e.seq h2⟩
 |.tup _,_,h=>by
  rw[Rep]at h ⊢;obtain⟨a,vs,h1,h2,h3⟩:=h;exact⟨a,vs,h1,An e h2,RepL.same e h3⟩
 |.lst _,_,h=>by
  rw[Rep]at h ⊢;obtain⟨a,vs,h1,h2,h3⟩:=h;exact⟨a,vs,h1,e _ _ h2,RepL.same e h3⟩
theorem RepL.same{K:PySem.W.Frag}{H H':Hp}(e:Same H H'):∀{ds:List Dat}{vs:List V},RepL K H ds vs->RepL K H' ds vs
 |[],_,h=>by rw[RepL]at h ⊢;exact h
 |_::_,_,h=>by
  rw[RepL]at h ⊢;obtain⟨v,r,h1,h2,h3⟩:=h;exact⟨v,r,h1,Rep.same e h2,RepL.same e h3⟩
end
theorem RepL.length{K:PySem.W.Frag}{H:Hp}:∀{ds:List Dat}{vs:List V},RepL K H ds vs->vs.length=ds.length
 |[],_,h=>by rw[RepL]at h;subst h;rfl
 |_::_,_,h=>by
  rw[RepL]at h;obtain⟨v,r,rfl,_,h3⟩:=h;rw[List.length_cons,List.length_cons,RepL.length h3]
theorem RepL.get{K:PySem.W.Frag}{H:Hp}:∀{ds:List Dat}{vs:List V}{i:Nat}{d:Dat},RepL K H ds vs->ds[i]?=some d->∃v,vs[i]?=some v/\Rep K H d v
 |[],_,_,_,_,e=>by simp at e
 |_::_,_,0,_,h,e=>by
  rw[RepL]at h;obtain⟨v,r,rfl,h2,_⟩:=h;simp at e;subst e;exact⟨v,rfl,h2⟩
 |_::_,_,i+1,d,h,e=>by
  rw[RepL]at h;obtain⟨v,r,rfl,_,h3⟩:=h;obtain⟨u,h4,h5⟩:=RepL.get (i:=i) (d:=d) h3 (by simpa using e);exact⟨u,by simpa using h4,h5⟩
theorem RepL.nil{K:PySem.W.Frag}{H:Hp}:RepL K H [] []:=by rw[RepL]
theorem RepL.cons{K:PySem.W.Frag}{H:Hp}{d:Dat}{ds:List Dat}{v:V}{vs:List V}(h:Rep K H d v)(t:RepL K H ds vs):RepL K H (d::ds) (v::vs):=by rw[RepL];exact⟨v,vs,rfl,h,t⟩
theorem RepL.append{K:PySem.W.Frag}{H:Hp}:∀{ds es:List Dat}{vs us:List V},RepL K H ds vs->RepL K H es us->RepL K H (ds++es) (vs++us)
 |[],_,_,_,h,t=>by rw[RepL]at h;subst h;exact t
 |_::_,_,_,_,h,t=>by
  rw[RepL]at h;obtain⟨v,r,rfl,h2,h3⟩:=h;exact RepL.cons h2 (RepL.append h3 t)
theorem RepL.drop{K:PySem.W.Frag}{H:Hp}:∀(n:Nat){ds:List Dat}{vs:List V},RepL K H ds vs->RepL K H (ds.drop n) (vs.drop n)
 |0,_,_,h=>h
 |_+1,[],_,h=>by rw[RepL]at h;subst h;simpa using RepL.nil
 |n+1,_::_,_,h=>by
  rw[RepL]at h;obtain⟨v,r,rfl,_,h3⟩:=h;exact RepL.drop n h3
theorem RepL.take{K:PySem.W.Frag}{H:Hp}:∀(n:Nat){ds:List Dat}{vs:List V},RepL K H ds vs->RepL K H (ds.take n) (vs.take n)
 |0,_,_,_=>by simpa using RepL.nil
 |_+1,[],_,h=>by rw[RepL]at h;subst h;simpa using RepL.nil
 |n+1,_::_,_,h=>by
  rw[RepL]at h;obtain⟨v,r,rfl,h2,h3⟩:=h;exact RepL.cons h2 (RepL.take n h3)
theorem RepL.ints{K:PySem.W.Frag}{H:Hp}:∀{ns:List Int}{vs:List V},RepL K H (ns.map Dat.int) vs->vs=ns.map V.int
 |[],_,h=>by rw[List.map_nil,RepL]at h;subst h;rfl
 |_::_,_,h=>by
  rw[List.map_cons,RepL]at h;obtain⟨v,r,rfl,h2,h3⟩:=h;rw[Rep]at h2;subst h2;rw[RepL.ints h3];rfl
inductive OD where
 |lst (l:List Dat)
 |dct (Ad:List (Dat×Dat))
abbrev Gs:=Addr->Option OD
def g0:Gs:=fun _=>none
def put(G:Gs)(a:Addr)(o:OD):Gs:=fun b=>if b=a then some o else G b
def rel(G:Gs)(a:Addr):Gs:=fun b=>if b=a then none else G b
theorem AI{G:Gs}{a:Addr}{o:OD}:put G a o a=some o:=by simp[put]
theorem Ak{G:Gs}{a b:Addr}{o:OD}(h:b≠a):put G a o b=G b:=by simp[put,h]
theorem B3{G:Gs}{a:Addr}:rel G a a=none:=by simp[rel]
theorem Dp{G:Gs}{a b:Addr}(h:b≠a):rel G a b=G b:=by simp[rel,h]
theorem BG{G:Gs}{a:Addr}{o:OD}(h:G a=none):rel (put G a o) a=G:=by
 funext b;by_cases e:b=a
 ·subst e;rw[B3,h]
 ·rw[Dp e,Ak e]
theorem A3{G:Gs}{a:Addr}{o u:OD}:put (put G a o) a u=put G a u:=by
 funext b;by_cases e:b=a
 ·subst e;rw[AI,AI]
 ·rw[Ak e,Ak e,Ak e]
theorem Og{G:Gs}{a b:Addr}{o u:OD}(h:a≠b):put (put G a o) b u=put (put G b u) a o:=by
 funext c;by_cases e:c=a
 ·subst e;rw[Ak h,AI,AI]
 ·by_cases f:c=b
  ·subst f;rw[AI,Ak e,AI]
  ·rw[Ak f,Ak e,Ak e,Ak f]
theorem KO{G:Gs}{a:Addr}{o:OD}(h:G a=some o):put G a o=G:=by
 funext b;by_cases e:b=a
 ·subst e;rw[AI,h]
 ·rw[Ak e]
def hid(H:Hp)(G:Gs):Hp:=fun b=>if (G b).isSome then none else H b
theorem MO{H:Hp}{G:Gs}{b:Addr}{o:HO}(h:hid H G b=some o):G b=none/\H b=some o:=by
 unfold hid at h;cases e:G b with
 |none=>rw[e]at h;exact⟨rfl,by simpa using h⟩
 |some u=>rw[e]at h;simp at h
theorem EY{H:Hp}{G:Gs}{b:Addr}{o:HO}(h1:G b=none)(h2:H b=some o):hid H G b=some o:=by unfold hid;rw[h1];simpa using h2
theorem AJ{H:Hp}{G:Gs}:Same (hid H G) H:=fun _ _ h=>(MO h).2
structure Ext (H:Hp) (G:Gs) (H':Hp) (G':Gs):Prop where
 keep:∀b o,H b=some o->G b=none->H' b=some o
 new:∀b,G' b≠none->G b≠none\/H b=none
theorem Ext.refl{H:Hp}{G:Gs}:Ext H G H G:=⟨fun _ _ h _=>h,fun _ h=>.inl h⟩
theorem Ext.hid{H H':Hp}{G G':Gs}(e:Ext H G H' G'):Same (hid H G) (hid H' G'):=fun b o h=>by
 obtain⟨h1,h2⟩:=MO h;refine EY ?_ (e.keep b o h2 h1);cases q:G' b with
 |none=>rfl
 |some u=>
  rcases e.new b (by rw[q];exact nofun)with z|z
  ·exact absurd h1 z
  ·rw[h2]at z;cases z
theorem Ext.trans{H H1 H2:Hp}{G G1 G2:Gs}(a:Ext H G H1 G1)(b:Ext H1 G1 H2 G2):Ext H G H2 G2:=by
 refine⟨fun c o h h'=>?_,fun c h=>?_⟩
 ·have h1:=a.keep c o h h';refine b.keep c o h1 ?_;cases q:G1 c with
  |none=>rfl
  |some u=>
   rcases a.new c (by rw[q];exact nofun)with z|z
   ·exact absurd h' z
   ·rw[h]at z;cases z
 ·rcases b.new c h with z|z
  ·exact a.new c z
  ·cases q:G c with
   |some u=>exact .inl nofun
   |none=>
    right;cases r:H c with
    |none=>rfl
    |some o=>rw[a.keep c o r q]at z;cases z
theorem Ext.alloc{H:Hp}{G:Gs}{p:Addr}{o:HO}(h:H p=none):Ext H G (upd H p o) G:=⟨fun b u e _=>by rw[AR (Ab e h)];exact e,fun _ h=>.inl h⟩
def B4:Nat->Dat->Bool
 |_,.int _=>true
 |n+1,.tup l=>l.all (B4 n)
 |_,_=>false
mutual
def Dv:Dat->Int
 |.int i=>hashInt i
 |.tup l=>reduceHash (Builtin.Tuple.tupleHashOf (DL l))
 |_=>0
def DL:List Dat->List Int
 |[]=>[]
 |d::r=>Dv d::DL r
end
def gU(x:Dat×Addr×Value):DictEntry:=⟨Dv x.1,.ref x.2.1,x.2.2⟩
def NT(a:Addr)(xs:List (Dat×Addr×Value))(h:Heap):Prop:=(a==sysModules)=false/\xs.length<=sizeLine/\(xs.map (·.1)).Nodup/\∃o es ep,h.get? a=some o/\o.ExactDict/\o.data=.dict es ep/\es.toList=xs.map gU
def EN(a:Addr)(xs:List (Dat×Addr×Value)):HO:=.ext (NT a xs)
def DRep(K:PySem.W.Frag)(H:Hp):List (Dat×Dat)->List (Dat×Addr×Value)->Prop
 |[],xs=>xs=[]
 |(k,d)::r,xs=>∃a u Lb,xs=(k,a,u)::Lb/\B4 6 k=true/\Rep K H k (.ref a)/\(∃v,RelV v u/\Rep K H d v)/\DRep K H r Lb
theorem DRep.same{K:PySem.W.Frag}{H H':Hp}(e:Same H H'):∀{Ad:List (Dat×Dat)}{xs:List (Dat×Addr×Value)},DRep K H Ad xs->DRep K H' Ad xs
 |[],_,h=>h
 |_::_,_,⟨a,u,Lb,h1,h2,h3,⟨v,h4,h5⟩,h6⟩=>⟨a,u,Lb,h1,h2,h3.same e,⟨v,h4,h5.same e⟩,DRep.same e h6⟩
section
variable (K:PySem.W.Frag)
def OwnOk(H:Hp)(G:Gs)(a:Addr):OD->Prop
 |.lst l=>∃vs,H a=some (.lst vs)/\RepL K (hid H G) l vs
 |.dct Ad=>∃xs,H a=some (EN a xs)/\DRep K (hid H G) Ad xs
def GOk(H:Hp)(G:Gs):Prop:=∀a o,G a=some o->OwnOk K H G a o
end
section
variable {K:PySem.W.Frag}{H H':Hp}{G G':Gs}{a p:Addr}
theorem OwnOk.there{o:OD}(h:OwnOk K H G a o):∃u,H a=some u:=by
 cases o with
 |lst l=>obtain⟨vs,h,_⟩:=h;exact⟨_,h⟩
 |dct Ad=>obtain⟨xs,h,_⟩:=h;exact⟨_,h⟩
theorem OwnOk.ext{o:OD}(h:OwnOk K H G a o)(e:Same (hid H G) (hid H' G'))(q:H' a=H a):OwnOk K H' G' a o:=by
 cases o with
 |lst l=>
  obtain⟨vs,h1,h2⟩:=h;exact⟨vs,q.trans h1,h2.same e⟩
 |dct Ad=>
  obtain⟨xs,h1,h2⟩:=h;exact⟨xs,q.trans h1,h2.same e⟩
theorem GOk.free(h:GOk K H G)(hp:H p=none):G p=none:=by
 cases q:G p with
 |none=>rfl
 |some o=>obtain⟨u,e⟩:=(h p o q).there;rw[hp]at e;cases e
theorem GOk.alloc{o:HO}(h:GOk K H G)(hp:H p=none):GOk K (upd H p o) G:=fun b u q=>
 (h b u q).ext (Ext.alloc hp).hid (AR (by rintro rfl;rw[h.free hp]at q;cases q))
theorem fD:GOk K H g0:=fun _ _ h=>nomatch h
theorem dD:hid H g0=H:=by funext b;simp[hid,g0]
end
abbrev Rho:=List (Option Dat)
structure Stt (X:Cx) (H:Hp) (σ:St) (ρ:Rho) (G:Gs):Prop where
 env:∀(i:Nat) d,ρ[i]?=some (some d)->∃v,σ[i]?=some (some v)/\Rep X.K (hid H G) d v
 len:ρ.length=σ.length
 own:GOk X.K H G
theorem Stt.ext{X:Cx}{H H':Hp}{σ:St}{ρ:Rho}{G G':Gs}(S:Stt X H σ ρ G)(e:Ext H G H' G')(o:GOk X.K H' G'):Stt X H' σ ρ G':=⟨fun i d h=>let ⟨v,h1,h2⟩:=S.env i d h;⟨v,h1,h2.same e.hid⟩,S.len,o⟩
theorem Stt.set{X:Cx}{H:Hp}{σ:St}{ρ:Rho}{G:Gs}{i:Nat}{d:Dat}{v:V}(S:Stt X H σ ρ G)(r:Rep X.K (hid H G) d v):Stt X H (σ.set i (some v)) (ρ.set i (some d)) G:=by
 refine⟨fun j e h=>?_,by rw[List.length_set,List.length_set,S.len],S.own⟩;by_cases hj:i=j
 ·subst hj;have hl:i<ρ.length:=by
   have:=(List.getElem?_eq_some_iff.mp h).1
   rwa [List.length_set]at this
  rw[List.getElem?_set_self hl]at h;cases h;exact⟨v,by rw[List.getElem?_set_self (by rw[<-S.len];exact hl)],r⟩
 ·rw[List.getElem?_set_ne hj]at h;rw[List.getElem?_set_ne hj];exact S.env j e h
section
variable (X:Cx)
def Po(H:Hp)(G:Gs)(Q:Dat->Gs->Prop):VK:=fun v H'=>∃d G',Ext H G H' G'/\GOk X.K H' G'/\Rep X.K (hid H' G') d v/\Q d G'
def PoT(H:Hp)(G:Gs)(Q:Bool->Gs->Prop):Bool->Hp->Prop:=fun b H'=>∃G',Ext H G H' G'/\GOk X.K H' G'/\Q b G'
def PoA(H:Hp)(G:Gs)(Q:List Dat->Gs->Prop):List V->Hp->Prop:=fun vs H'=>∃ds G',Ext H G H' G'/\GOk X.K H' G'/\RepL X.K (hid H' G') ds vs/\Q ds G'
def WE(ρ:Rho)(G:Gs)(e:Expr)(Q:Dat->Gs->Prop):Prop:=∀(AD:List (Addr×Obj))(s:Shared)(σ:St)(H:Hp),Inv X AD σ H s->Stt X H σ ρ G->wpAny (model X.prog X.w) X.A (eval e X.env) (EP X AD σ (Po X H G Q)) X.xe s
def WT(ρ:Rho)(G:Gs)(e:Expr)(Q:Bool->Gs->Prop):Prop:=∀(AD:List (Addr×Obj))(s:Shared)(σ:St)(H:Hp),Inv X AD σ H s->Stt X H σ ρ G->wpAny (model X.prog X.w) X.A (isTrue e X.env (eval e X.env)) (TP X AD σ (PoT X H G Q)) X.xe s
def WA(ρ:Rho)(G:Gs)(es:List Expr)(Q:List Dat->Gs->Prop):Prop:=∀(pos:Pos)(AD:List (Addr×Obj))(s:Shared)(σ:St)(H:Hp),Inv X AD σ H s->Stt X H σ ρ G->wpAny (model X.prog X.w) X.A (spliced (backTo pos (starEach es X.env))) (AP X AD σ (PoA X H G Q)) X.xe s
def PX(ρ:Rho)(G:Gs)(e:Expr)(d:Dat):Prop:=WE X ρ G e fun d' G'=>d'=d/\G'=G
def PXT(ρ:Rho)(G:Gs)(e:Expr)(b:Bool):Prop:=WT X ρ G e fun b' G'=>b'=b/\G'=G
def PXs(ρ:Rho)(G:Gs)(es:List Expr)(ds:List Dat):Prop:=WA X ρ G es fun d' G'=>d'=ds/\G'=G
end
theorem EP.mono{X:Cx}{AD:List (Addr×Obj)}{σ:St}{Q Q':VK}{u:Value}{s:Shared}(h:EP X AD σ Q u s)(k:∀v H,Q v H->Q' v H):EP X AD σ Q' u s:=let ⟨v,H,I,r,q⟩:=h;⟨v,H,I,r,k v H q⟩
theorem TP.mono{X:Cx}{AD:List (Addr×Obj)}{σ:St}{Q Q':Bool->Hp->Prop}{u:Bool}{s:Shared}(h:TP X AD σ Q u s)(k:∀v H,Q v H->Q' v H):TP X AD σ Q' u s:=let ⟨H,I,q⟩:=h;⟨H,I,k _ H q⟩
theorem AP.mono{X:Cx}{AD:List (Addr×Obj)}{σ:St}{Q Q':List V->Hp->Prop}{u:List Value}{s:Shared}(h:AP X AD σ Q u s)(k:∀v H,Q v H->Q' v H):AP X AD σ Q' u s:=let ⟨v,H,I,r,q⟩:=h;⟨v,H,I,r,k v H q⟩
theorem Po.mono{X:Cx}{H:Hp}{G:Gs}{Q Q':Dat->Gs->Prop}{v:V}{H':Hp}(h:Po X H G Q v H')(k:∀d G',Q d G'->Q' d G'):Po X H G Q' v H':=let ⟨d,G',e,o,r,q⟩:=h;⟨d,G',e,o,r,k d G' q⟩
theorem Po.trans{X:Cx}{H H1:Hp}{G G1:Gs}{Q:Dat->Gs->Prop}{v:V}{H':Hp}(e:Ext H G H1 G1)(h:Po X H1 G1 Q v H'):Po X H G Q v H':=let ⟨d,G',e',o,r,q⟩:=h;⟨d,G',e.trans e',o,r,q⟩
theorem PoT.trans{X:Cx}{H H1:Hp}{G G1:Gs}{Q:Bool->Gs->Prop}{v:Bool}{H':Hp}(e:Ext H G H1 G1)(h:PoT X H1 G1 Q v H'):PoT X H G Q v H':=let ⟨G',e',o,q⟩:=h;⟨G',e.trans e',o,q⟩
section
variable {X:Cx}{ρ:Rho}{G:Gs}{e a b:Expr}{es:List Expr}{d d' d1 d2:Dat}{ds:List Dat}{pos:Pos}
theorem Bb{t:TE}{Q:Dat->Gs->Prop}(h:PE X e t)(hq:∀σ H,Stt X H σ ρ G->t σ H (Po X H G Q)):WE X ρ G e Q:=fun AD s σ H I S=>h AD s σ H _ I (hq σ H S)
def tW(X:Cx)(e:Expr):TE:=fun σ H Q'=>∃ρ G R,WE X ρ G e R/\Stt X H σ ρ G/\∀v H',Po X H G R v H'->Q' v H'
theorem Av:PE X e (tW X e):=fun AD s σ H Q I ⟨_,_,_,h,S,k⟩=>thn (h AD s σ H I S) fun _ _ q=>EP.mono q k
theorem Vo{t:TT}{Q:Bool->Gs->Prop}(h:PT X e t)(hq:∀σ H,Stt X H σ ρ G->t σ H (PoT X H G Q)):WT X ρ G e Q:=fun AD s σ H I S=>h AD s σ H _ I (hq σ H S)
theorem Rp{t:TA}{Q:List Dat->Gs->Prop}(h:PA X es t)(hq:∀σ H,Stt X H σ ρ G->t σ H (PoA X H G Q)):WA X ρ G es Q:=fun pos AD s σ H I S=>h pos AD s σ H _ I (hq σ H S)
def tWA(X:Cx)(es:List Expr):TA:=fun σ H Q'=>∃ρ G R,WA X ρ G es R/\Stt X H σ ρ G/\∀v H',PoA X H G R v H'->Q' v H'
theorem J8:PA X es (tWA X es):=fun pos AD s σ H Q I ⟨_,_,_,h,S,k⟩=>thn (h pos AD s σ H I S) fun _ _ q=>AP.mono q k
theorem WE.mono{Q Q':Dat->Gs->Prop}(h:WE X ρ G e Q)(k:∀d G',Q d G'->Q' d G'):WE X ρ G e Q':=fun AD s σ H I S=>thn (h AD s σ H I S) fun _ _ q=>EP.mono q fun _ _ z=>Po.mono z k
theorem PX.we{Q:Dat->Gs->Prop}(h:PX X ρ G e d)(q:Q d G):WE X ρ G e Q:=WE.mono h fun _ _ ⟨h1,h2⟩=>by subst h1;subst h2;exact q
theorem PX.cast(h:PX X ρ G e d)(q:d=d'):PX X ρ G e d':=q▸h
theorem po1{H H':Hp}{v:V}(e:Ext H G H' G)(o:GOk X.K H' G)(r:Rep X.K (hid H' G) d v):Po X H G (fun d' G'=>d'=d/\G'=G) v H':=⟨d,G,e,o,r,rfl,rfl⟩
theorem Ba{H:Hp}{v:V}(o:GOk X.K H G)(r:Rep X.K (hid H G) d v):Po X H G (fun d' G'=>d'=d/\G'=G) v H:=po1 Ext.refl o r
theorem AA(i:Nat){x:Str}(hi:ρ[i]?=some (some d))(hN:X.N[i]?=some x:=by rfl)(hv:Vis X.env.scope x:=by first|exact Or.inl rfl|exact Or.inr (Or.inl rfl)|exact Or.inr (Or.inr rfl))(hd:(x==("__debug__":Str))=false:=by decide)(RB:(x==("__classdict__":Str))=false:=by decide):PX X ρ G (.Name x pos) d:=Bb (b5 hN hv hd RB) fun σ H S=>let ⟨v,h1,h2⟩:=S.env i d hi;⟨v,h1,Ba S.own h2⟩
theorem AG{i:Int}{j}:PX X ρ G (.Constant (.int i) j pos) (.int i):=Bb cM fun σ H S=>Ba S.own rfl
theorem DV{i:Bool}{j}:PX X ρ G (.Constant (.bool i) j pos) (.bl i):=Bb fH fun σ H S=>Ba S.own rfl
theorem dG{x:Str}{j}:PX X ρ G (.Constant (.str x) j pos) (.str x):=Bb br fun σ H S=>Ba S.own rfl
theorem ME{op:Operator}{r:R2}(ho:OpR X (binaryOp op) r)(ha:PX X ρ G a d1)(hb:PX X ρ G b d2)(hr:∀(H:Hp)(x y:V)(Q:VK),GOk X.K H G->Rep X.K (hid H G) d1 x->Rep X.K (hid H G) d2 y->(∀v H',Po X H G (fun d' G'=>d'=d/\G'=G) v H'->Q v H')->r x y H Q):PX X ρ G (.BinOp a op b pos) d:=Bb (Zy ho Av Av) fun σ H S=>⟨ρ,G,_,ha,S,fun x H1 ⟨_,_,e1,o1,r1,q1,BZ⟩=>by
  subst q1;subst BZ;refine⟨ρ,_,_,hb,S.ext e1 o1,fun y H2 ⟨_,_,e2,o2,r2,q2,G6⟩=>?_⟩;subst q2;subst G6;exact hr H2 x y _ o2 (r1.same e2.hid) r2 fun v H' z=>Po.trans (e1.trans e2) z⟩
end
mutual
def eqD:Dat->Dat->Bool
 |.non,.non=>true
 |.bl a,.bl b=>a==b
 |.bl a,.int b=>(if a then 1 else 0)==b
 |.int a,.bl b=>a==(if b then 1 else 0)
 |.int a,.int b=>a==b
 |.str a,.str b=>a==b
 |.tup l,.tup m=>eqL l m
 |.lst l,.lst m=>eqL l m
 |_,_=>false
def eqL:List Dat->List Dat->Bool
 |[],[]=>true
 |x::xs,y::ys=>eqD x y&&eqL xs ys
 |_,_=>false
end
def Ag:Dat->Bool
 |.non=>true|.bl _=>true|.int _=>true|.str _=>true|_=>false
def AH:Nat->Dat->Bool
 |0,d=>Ag d
 |n+1,.tup l=>l.all (AH n)
 |n+1,.lst l=>l.all (AH n)
 |_+1,d=>Ag d
theorem JE{d:Dat}(h:Ag d=true):∀n,AH n d=true
 |0=>h
 |n+1=>by cases d<;>first|exact h|(simp[Ag]at h)
theorem OK:∀(n:Nat)(d:Dat),AH n d=true->eqD d d=true:=by
 intro n
 induction n with
 |zero=>intro d h;cases d<;>simp_all[AH,Ag,eqD]
 |succ n ih=>
  have hl:∀l:List Dat,l.all (AH n)=true->eqL l l=true:=by
   intro l
   induction l with
   |nil=>intro _;simp[eqL]
   |cons x r oY=>
    intro h;simp only[List.all_cons,Bool.and_eq_true]at h;simp only[eqL,Bool.and_eq_true];exact⟨ih x h.1,oY h.2⟩
  intro d h;cases d<;>simp_all[AH,Ag,eqD]
theorem Dw:∀(l m:List Dat),eqL l m=((List.range (min l.length m.length)).all (fun j=>match l[j]?,m[j]? with|some x,some y=>eqD x y|_,_=>true)&&l.length==m.length)
 |[],[]=>by simp[eqL]
 |[],_::_=>by simp[eqL]
 |_::_,[]=>by simp[eqL]
 |x::l,y::m=>by
  rw[eqL,Dw l m,List.length_cons,List.length_cons,Nat.succ_min_succ,List.range_succ_eq_map,List.all_cons,List.all_map];simp only[List.getElem?_cons_zero,Function.comp_def,List.getElem?_cons_succ,Nat.succ_eq_add_one,Bool.and_assoc];congr 2;rw[Bool.eq_iff_iff];simp
mutual
def AtH(h:Heap):Dat->Value->Prop
 |.non,u=>u=.none
 |.bl b,u=>u=.bool b
 |.int i,u=>∃t,u=.int i t
 |.str x,u=>∃t,u=.str x t
 |.fn a,u=>u=.ref a
 |.scr _,_=>False
 |.tup l,u=>∃a AO,u=.ref a/\h.IsTuple a AO.toArray/\AtL h l AO
 |.lst l,u=>∃a AO,u=.ref a/\h.IsList a AO.toArray/\AtL h l AO
def AtL(h:Heap):List Dat->List Value->Prop
 |[],us=>us=[]
 |d::ds,us=>∃u r,us=u::r/\AtH h d u/\AtL h ds r
end
theorem AtL.length{h:Heap}:∀{ds:List Dat}{us:List Value},AtL h ds us->us.length=ds.length
 |[],_,r=>by rw[AtL]at r;subst r;rfl
 |_::_,_,r=>by
  rw[AtL]at r;obtain⟨u,r,rfl,_,h3⟩:=r;rw[List.length_cons,List.length_cons,AtL.length h3]
theorem AtL.get{h:Heap}:∀{ds:List Dat}{us:List Value}{i:Nat}{d:Dat},AtL h ds us->ds[i]?=some d->∃u,us[i]?=some u/\AtH h d u
 |[],_,_,_,_,e=>by simp at e
 |_::_,_,0,_,r,e=>by
  rw[AtL]at r;obtain⟨u,r,rfl,h2,_⟩:=r;simp at e;subst e;exact⟨u,rfl,h2⟩
 |_::_,_,i+1,d,r,e=>by
  rw[AtL]at r;obtain⟨u,r,rfl,_,h3⟩:=r;obtain⟨u',h4,h5⟩:=AtL.get (i:=i) (d:=d) h3 (by simpa using e);exact⟨u',by simpa using h4,h5⟩
section
variable {X:Cx}{AD:List (Addr×Obj)}{σ:St}{H:Hp}{s:Shared}
mutual
theorem Rep.at(I:Inv X AD σ H s):∀{d:Dat}{v:V}{u:Value}{n:Nat},AH n d=true->Rep X.K H d v->RelV v u->AtH s.heap d u
 |.non,_,_,_,_,r,q=>by rw[Rep]at r;subst r;cases q;rw[AtH]
 |.bl _,_,_,_,_,r,q=>by rw[Rep]at r;subst r;cases q;rw[AtH]
 |.int _,_,_,_,_,r,q=>by rw[Rep]at r;subst r;rw[AtH];exact q
 |.str _,_,_,_,_,r,q=>by rw[Rep]at r;subst r;rw[AtH];exact q
 |.fn _,_,_,_,_,r,q=>by rw[Rep]at r;subst r;cases q;rw[AtH]
 |.scr _,_,_,n,p,_,_=>by cases n<;>simp[AH,Ag]at p
 |.tup l,_,_,n,p,r,q=>by
  rw[Rep]at r;obtain⟨a,vs,rfl,h1,h2⟩:=r;cases q;obtain⟨AO,rv,ht,_⟩:=I.tuple h1;rw[AtH];refine⟨a,AO,rfl,ht,?_⟩;cases n with
  |zero=>simp[AH,Ag]at p
  |succ n=>exact RepL.at I (n:=n) (by simpa[AH]using p) h2 rv
 |.lst l,_,_,n,p,r,q=>by
  rw[Rep]at r;obtain⟨a,vs,rfl,h1,h2⟩:=r;cases q;obtain⟨AO,rv,ht,_⟩:=I.list (SqL.of h1);rw[AtH];refine⟨a,AO,rfl,ht.isList,?_⟩;cases n with
  |zero=>simp[AH,Ag]at p
  |succ n=>exact RepL.at I (n:=n) (by simpa[AH]using p) h2 rv
theorem RepL.at(I:Inv X AD σ H s):∀{ds:List Dat}{vs:List V}{us:List Value}{n:Nat},ds.all (AH n)=true->RepL X.K H ds vs->Vals vs us->AtL s.heap ds us
 |[],_,_,_,_,r,q=>by rw[RepL]at r;subst r;cases q;rw[AtL]
 |d::ds,_,_,n,p,r,q=>by
  rw[RepL]at r;obtain⟨v,r,rfl,h1,h2⟩:=r;cases q with
  |cons q1 q2=>
   simp only[List.all_cons,Bool.and_eq_true]at p;rw[AtL];exact⟨_,_,rfl,Rep.at I p.1 h1 q1,RepL.at I p.2 h2 q2⟩
end
end
theorem AtH.flat{h:Heap}{d:Dat}{u:Value}(r:AtH h d u)(f:Ag d=true):∃v,RelV v u/\Wi v=true/\∀(d':Dat)(u':Value)(v':V),Ag d'=true->AtH h d' u'->RelV v' u'->eqV v v'=eqD d d':=by
 cases d<;>simp only[Ag,Bool.false_eq_true]at f<;>rw[AtH]at r
 ·subst r;refine⟨.non,rfl,rfl,fun d' u' v' f' r' q'=>?_⟩;cases d'<;>simp only[Ag,Bool.false_eq_true]at f'<;>rw[AtH]at r'<;>first|(subst r';cases v'<;>simp_all[RelV,eqV,eqD];done)|(obtain⟨t,rfl⟩:=r';cases v'<;>simp_all[RelV,eqV,eqD])
 ·subst r;refine⟨.bl _,rfl,rfl,fun d' u' v' f' r' q'=>?_⟩;cases d'<;>simp only[Ag,Bool.false_eq_true]at f'<;>rw[AtH]at r'<;>first|(subst r';cases v'<;>simp_all[RelV,eqV,eqD];done)|(obtain⟨t,rfl⟩:=r';cases v'<;>simp_all[RelV,eqV,eqD])
 ·refine⟨.int _,r,rfl,fun d' u' v' f' r' q'=>?_⟩;cases d'<;>simp only[Ag,Bool.false_eq_true]at f'<;>rw[AtH]at r'<;>first|(subst r';cases v'<;>simp_all[RelV,eqV,eqD];done)|(obtain⟨t,rfl⟩:=r';cases v'<;>simp_all[RelV,eqV,eqD])
 ·refine⟨.str _,r,rfl,fun d' u' v' f' r' q'=>?_⟩;cases d'<;>simp only[Ag,Bool.false_eq_true]at f'<;>rw[AtH]at r'<;>first|(subst r';cases v'<;>simp_all[RelV,eqV,eqD];done)|(obtain⟨t,rfl⟩:=r';cases v'<;>simp_all[RelV,eqV,eqD])
theorem ON{h:Heap}{a:Addr}{xs ys:Array Value}(h1:h.IsTuple a xs)(h2:h.IsList a ys):False:=by obtain⟨o,e,c,_⟩:=h1;obtain⟨o',e',c',_⟩:=h2;rw[e]at e';cases e';rw[c]at c';exact absurd c' (by decide)
theorem UK{h:Heap}{a:Addr}{xs ys:List Value}(h1:h.IsTuple a xs.toArray)(h2:h.IsTuple a ys.toArray):xs=ys:=by obtain⟨o,e,c,n,d⟩:=h1;obtain⟨o',e',c',n',d'⟩:=h2;rw[e]at e';cases e';rw[d]at d';injection d' with d1 _;simpa using congrArg Array.toList d1
theorem Vn{h:Heap}{a:Addr}{xs ys:List Value}(h1:h.IsList a xs.toArray)(h2:h.IsList a ys.toArray):xs=ys:=by obtain⟨o,e,c,n,d⟩:=h1;obtain⟨o',e',c',n',d'⟩:=h2;rw[e]at e';cases e';rw[d]at d';injection d' with d1 _;simpa using congrArg Array.toList d1
theorem AtH.inj{h:Heap}:∀(n:Nat){d d':Dat}{u:Value},AH n d=true->AH n d'=true->AtH h d u->AtH h d' u->d=d':=by
 have flat:∀{d d':Dat}{u:Value},Ag d=true->Ag d'=true->AtH h d u->AtH h d' u->d=d':=by
  intro d d' u f f' r r';cases d<;>simp only[Ag,Bool.false_eq_true]at f<;>cases d'<;>simp only[Ag,Bool.false_eq_true]at f'<;>simp only[AtH]at r r' <;>
   first
   |rfl
   |(subst r;cases r';rfl)
   |(obtain⟨t,rfl⟩:=r;obtain⟨t',e⟩:=r';cases e;rfl)
   |(exfalso;subst r;cases r';done)
   |(exfalso;subst r;obtain⟨t',e⟩:=r';cases e;done)
   |(exfalso;obtain⟨t,rfl⟩:=r;cases r';done)
   |(exfalso;obtain⟨t,rfl⟩:=r;obtain⟨t',e⟩:=r';cases e;done)
 have SH:∀{d:Dat}{u:Value}{a:Addr},Ag d=true->AtH h d u->u=.ref a->False:=by
  intro d u a f r e;subst e;cases d<;>simp only[Ag,Bool.false_eq_true]at f<;>rw[AtH]at r<;>first|(cases r;done)|(obtain⟨t,e⟩:=r;cases e;done)
 intro n
 induction n with
 |zero=>intro d d' u h h' r r';exact flat h h' r r'
 |succ n ih=>
  have hl:∀(l m:List Dat)(us:List Value),l.all (AH n)=true->m.all (AH n)=true->AtL h l us->AtL h m us->l=m:=by
   intro l
   induction l with
   |nil=>
    intro m us _ _ r r';rw[AtL]at r;subst r;cases m with
    |nil=>rfl
    |cons y m=>rw[AtL]at r';obtain⟨_,_,e,_⟩:=r';cases e
   |cons x l fg=>
    intro m us h h' r r';rw[AtL]at r;obtain⟨v,rr,rfl,r1,r2⟩:=r;cases m with
    |nil=>rw[AtL]at r';cases r'
    |cons y m=>
     rw[AtL]at r';obtain⟨v',rW,e,Uc,YS⟩:=r';cases e;simp only[List.all_cons,Bool.and_eq_true]at h h';rw[ih h.1 h'.1 r1 Uc,fg m _ h.2 h'.2 r2 YS]
  intro d d' u h h' r r';by_cases f:Ag d=true
  ·by_cases f':Ag d'=true
   ·exact flat f f' r r'
   ·exfalso;cases d'<;>simp[AH,Ag]at h' f'
    ·rw[AtH]at r';obtain⟨a,_,e,_⟩:=r';exact SH f r e
    ·rw[AtH]at r';obtain⟨a,_,e,_⟩:=r';exact SH f r e
  ·by_cases f':Ag d'=true
   ·exfalso;cases d<;>simp[AH,Ag]at h f
    ·rw[AtH]at r;obtain⟨a,_,e,_⟩:=r;exact SH f' r' e
    ·rw[AtH]at r;obtain⟨a,_,e,_⟩:=r;exact SH f' r' e
   ·cases d<;>simp[AH,Ag]at h f<;>cases d'<;>simp[AH,Ag]at h' f'<;>simp only[AtH]at r r'<;>obtain⟨a,xs,e1,t1,l1⟩:=r<;>obtain⟨b,ys,e2,t2,l2⟩:=r'<;>subst e1<;>cases e2
    ·have:=UK t1 t2
     subst this;rw[hl _ _ _ (List.all_eq_true.mpr h) (List.all_eq_true.mpr h') l1 l2]
    ·exact(ON t1 t2).elim
    ·exact(ON t2 t1).elim
    ·have:=Vn t1 t2
     subst this;rw[hl _ _ _ (List.all_eq_true.mpr h) (List.all_eq_true.mpr h') l1 l2]
theorem Rep.inj{X:Cx}{AD:List (Addr×Obj)}{σ:St}{H:Hp}{s:Shared}(I:Inv X AD σ H s)(n:Nat){d d':Dat}{v:V}{u:Value}(h:AH n d=true)(h':AH n d'=true)(r:Rep X.K H d v)(r':Rep X.K H d' v)(q:RelV v u):d=d':=AtH.inj n h h' (r.at I h q) (r'.at I h' q)
theorem FZ{s:Shared}:∀(n:Nat){A:Around}{d e:Dat}{u v:Value},AH n d=true->AH n e=true->AtH s.heap d u->AtH s.heap e v->A.units+n<cLine →
  SeqAt.EqAt A s u v (eqD d e)/\SeqAt.RcAt A s u v (eqD d e):=by
 have aW:∀{A:Around}{d e:Dat}{u v:Value},Ag d=true->Ag e=true->AtH s.heap d u->AtH s.heap e v->SeqAt.EqAt A s u v (eqD d e)/\SeqAt.RcAt A s u v (eqD d e):=by
  intro A d e u v fd fe rd re;constructor
  ·obtain⟨x,hx,fx,h1⟩:=AtH.flat rd fd;obtain⟨y,hy,fy,_⟩:=AtH.flat re fe;rw[<-h1 e v y fe re hy];exact bu hx hy fx fy
  ·cases d<;>simp only[Ag,Bool.false_eq_true]at fd<;>cases e<;>simp only[Ag,Bool.false_eq_true]at fe<;>simp only[AtH]at rd re<;>simp only[eqD]
   ·subst rd;subst re;exact SeqAt.RcAt.none_none
   ·subst rd;subst re;exact SeqAt.RcAt.none_bool _
   ·subst rd;obtain⟨_,rfl⟩:=re;exact SeqAt.RcAt.none_int _ _
   ·subst rd;obtain⟨_,rfl⟩:=re;exact SeqAt.RcAt.none_str _ _
   ·subst rd;subst re;exact SeqAt.RcAt.bool_none _
   ·subst rd;subst re;exact SeqAt.RcAt.bool_bool _ _
   ·subst rd;obtain⟨_,rfl⟩:=re;exact SeqAt.RcAt.bool_int _ _ _
   ·subst rd;obtain⟨_,rfl⟩:=re;exact SeqAt.RcAt.bool_str _ _ _
   ·obtain⟨_,rfl⟩:=rd;subst re;exact SeqAt.RcAt.int_none _ _
   ·obtain⟨_,rfl⟩:=rd;subst re;exact SeqAt.RcAt.int_bool _ _ _
   ·obtain⟨_,rfl⟩:=rd;obtain⟨_,rfl⟩:=re;exact SeqAt.RcAt.int_int _ _ _ _
   ·obtain⟨_,rfl⟩:=rd;obtain⟨_,rfl⟩:=re;exact SeqAt.RcAt.int_str _ _ _ _
   ·obtain⟨_,rfl⟩:=rd;subst re;exact SeqAt.RcAt.str_none _ _
   ·obtain⟨_,rfl⟩:=rd;subst re;exact SeqAt.RcAt.str_bool _ _ _
   ·obtain⟨_,rfl⟩:=rd;obtain⟨_,rfl⟩:=re;exact SeqAt.RcAt.str_int _ _ _ _
   ·obtain⟨_,rfl⟩:=rd;obtain⟨_,rfl⟩:=re;exact SeqAt.RcAt.str_str _ _ _ _
 intro n
 induction n with
 |zero=>intro A d e u v hd he rd re _;exact aW hd he rd re
 |succ n ih=>
  intro A d e u v hd he rd re hu;have Cw:A.units<cLine:=by lia
  have items:∀(l m:List Dat)(is js:List Value),l.all (AH n)=true->m.all (AH n)=true->AtL s.heap l is->AtL s.heap m js →
    ∀j (h1:j<is.toArray.size) (h2:j<js.toArray.size),SeqAt.EqAt A.in1 s is.toArray[j] js.toArray[j] ((fun j=>match l[j]?,m[j]? with|some x,some y=>eqD x y|_,_=>true) j):=by
   intro l m is js hl hm rl rm j h1 h2;have P9:j<is.length:=by simpa using h1
   have Tg:j<js.length:=by simpa using h2
   have l1:j<l.length:=by rw[<-rl.length];exact P9
   have l2:j<m.length:=by rw[<-rm.length];exact Tg
   obtain⟨u1,f1,q1⟩:=rl.get (List.getElem?_eq_getElem l1);obtain⟨u2,f2,q2⟩:=rm.get (List.getElem?_eq_getElem l2);rw[List.getElem?_eq_getElem P9]at f1;rw[List.getElem?_eq_getElem Tg]at f2;cases f1;cases f2;have hx:AH n l[j]=true:=List.all_eq_true.mp hl _ (List.getElem_mem l1);have hy:AH n m[j]=true:=List.all_eq_true.mp hm _ (List.getElem_mem l2)
   have:=(ih (A:=A.in1) hx hy q1 q2 (by show A.units+1+n<cLine;lia)).1
   simpa[List.getElem?_eq_getElem l1,List.getElem?_eq_getElem l2]using this
  by_cases fd:Ag d=true
  ·by_cases fe:Ag e=true
   ·exact aW fd fe rd re
   ·cases e<;>simp[AH,Ag]at he fe
    ·rw[AtH]at re;obtain⟨b,js,rfl,tj,rm⟩:=re;cases d<;>simp only[Ag,Bool.false_eq_true]at fd<;>rw[AtH]at rd
     ·subst rd;exact⟨.none_tuple tj Cw,.none_tuple tj Cw⟩
     ·subst rd;exact⟨.bool_tuple _ tj Cw,.bool_tuple _ tj Cw⟩
     ·obtain⟨t,rfl⟩:=rd;exact⟨.int_tuple _ _ tj Cw,.int_tuple _ _ tj Cw⟩
     ·obtain⟨t,rfl⟩:=rd;exact⟨.str_tuple _ _ tj Cw,.str_tuple _ _ tj Cw⟩
    ·rw[AtH]at re;obtain⟨b,js,rfl,tj,rm⟩:=re;cases d<;>simp only[Ag,Bool.false_eq_true]at fd<;>rw[AtH]at rd
     ·subst rd;exact⟨.none_list tj Cw,.none_list tj Cw⟩
     ·subst rd;exact⟨.bool_list _ tj Cw,.bool_list _ tj Cw⟩
     ·obtain⟨t,rfl⟩:=rd;exact⟨.int_list _ _ tj Cw,.int_list _ _ tj Cw⟩
     ·obtain⟨t,rfl⟩:=rd;exact⟨.str_list _ _ tj Cw,.str_list _ _ tj Cw⟩
  ·cases d with
   |tup l=>
    have Yl:=rd;rw[AtH]at rd;obtain⟨a,is,rfl,ti,rl⟩:=rd;cases e with
    |tup m=>
     have j9:=re;rw[AtH]at re;obtain⟨b,js,rfl,tj,rm⟩:=re;have rc:SeqAt.RcAt A s (.ref a) (.ref b) (eqD (.tup l) (.tup m)):=by
      have:=SeqAt.RcAt.tuples ti tj Cw (items l m is js (by simpa[AH]using hd) (by simpa[AH]using he) rl rm)
      rw[eqD,Dw];have e1:is.toArray.size=l.length:=by rw[List.size_toArray,rl.length]
      have e2:js.toArray.size=m.length:=by rw[List.size_toArray,rm.length]
      rw[e1,e2]at this;exact this
     refine⟨?_,rc⟩;by_cases IG:a=b
     ·subst IG
      have:=AtH.inj (n+1) hd he Yl j9
      rw[<-this,OK (n+1) _ hd];exact SeqAt.EqAt.same _
     ·exact SeqAt.EqAt.of_refs IG rc
    |lst m=>
     rw[AtH]at re;obtain⟨b,js,rfl,tj,rm⟩:=re;exact⟨.tuple_list ti tj Cw,.tuple_list ti tj Cw⟩
    |fn a=>simp[AH,Ag]at he
    |scr a=>simp[AH,Ag]at he
    |non=>rw[AtH]at re;subst re;exact⟨.tuple_none ti Cw,.tuple_none ti Cw⟩
    |bl b=>rw[AtH]at re;subst re;exact⟨.tuple_bool _ ti Cw,.tuple_bool _ ti Cw⟩
    |int b=>rw[AtH]at re;obtain⟨t,rfl⟩:=re;exact⟨.tuple_int _ _ ti Cw,.tuple_int _ _ ti Cw⟩
    |str b=>rw[AtH]at re;obtain⟨t,rfl⟩:=re;exact⟨.tuple_str _ _ ti Cw,.tuple_str _ _ ti Cw⟩
   |lst l=>
    have Yl:=rd;rw[AtH]at rd;obtain⟨a,is,rfl,ti,rl⟩:=rd;cases e with
    |tup m=>
     rw[AtH]at re;obtain⟨b,js,rfl,tj,rm⟩:=re;exact⟨.list_tuple ti tj Cw,.list_tuple ti tj Cw⟩
    |lst m=>
     have j9:=re;rw[AtH]at re;obtain⟨b,js,rfl,tj,rm⟩:=re;have e1:is.toArray.size=l.length:=by rw[List.size_toArray,rl.length]
     have e2:js.toArray.size=m.length:=by rw[List.size_toArray,rm.length]
     have rc:SeqAt.RcAt A s (.ref a) (.ref b) (eqD (.lst l) (.lst m)):=by
      rw[eqD,Dw];by_cases hsz:l.length=m.length
      ·have:=SeqAt.RcAt.lists ti tj (by rw[e1,e2,hsz]) Cw (items l m is js (by simpa[AH]using hd) (by simpa[AH]using he) rl rm)
       rw[e1]at this;rw[hsz,Nat.min_self,beq_self_eq_true,Bool.and_true,<-hsz];exact this
      ·have:=SeqAt.RcAt.lists_lengths ti tj (by rw[e1,e2];simpa using hsz) Cw
       rw[show(l.length==m.length)=false by simpa using hsz,Bool.and_false];exact this
     refine⟨?_,rc⟩;by_cases IG:a=b
     ·subst IG
      have:=AtH.inj (n+1) hd he Yl j9
      rw[<-this,OK (n+1) _ hd];exact SeqAt.EqAt.same _
     ·exact SeqAt.EqAt.of_refs IG rc
    |fn a=>simp[AH,Ag]at he
    |scr a=>simp[AH,Ag]at he
    |non=>rw[AtH]at re;subst re;exact⟨.list_none ti Cw,.list_none ti Cw⟩
    |bl b=>rw[AtH]at re;subst re;exact⟨.list_bool _ ti Cw,.list_bool _ ti Cw⟩
    |int b=>rw[AtH]at re;obtain⟨t,rfl⟩:=re;exact⟨.list_int _ _ ti Cw,.list_int _ _ ti Cw⟩
    |str b=>rw[AtH]at re;obtain⟨t,rfl⟩:=re;exact⟨.list_str _ _ ti Cw,.list_str _ _ ti Cw⟩
   |fn a=>simp[AH,Ag]at hd
   |scr a=>simp[AH,Ag]at hd
   |non=>simp[Ag]at fd
   |bl a=>simp[Ag]at fd
   |int a=>simp[Ag]at fd
   |str a=>simp[Ag]at fd
section
variable {X:Cx}
def kE(K:PySem.W.Frag):R2:=fun x y H Q=>∃d e,Rep K H d x/\Rep K H e y/\AH 9 d=true/\AH 9 e=true/\Q (.bl (eqD d e)) H
theorem bY(hu:X.A.units+9<cLine):OpR X (compareOp .Eq) (kE X.K):=by intro AD s σ H x y v u Q I rx ry h;obtain⟨d,e,rd,re,pd,pe,q⟩:=h;exact(FZ 9 pd pe (rd.at I pd rx) (re.at I pe ry) hu).2 _ _ _ _ ⟨.bl _,H,I,rfl,q⟩
def B1(K:PySem.W.Frag)(H:Hp)(l:List Dat)(x:Dat)(u:Value):Bool:=open Classical in if h:∃d v,d∈l/\RelV v u/\Rep K H d v then eqD (Classical.choose h) x else false
theorem MM{AD:List (Addr×Obj)}{σ:St}{H:Hp}{s:Shared}(I:Inv X AD σ H s){l:List Dat}{x d:Dat}{v:V}{u:Value}(hl:l.all (AH 8)=true)(hd:d∈l)(r:RelV v u)(q:Rep X.K H d v) :
  B1 X.K H l x u=eqD d x:=by
 have h:∃d v,d∈l/\RelV v u/\Rep X.K H d v:=⟨d,v,hd,r,q⟩;unfold B1;rw[dif_pos h];obtain⟨v',h1,h2,h3⟩:=Classical.choose_spec h;have e:v'=v:=h2.inj r;subst e;have p:=List.all_eq_true.mp hl;rw[Rep.inj I 8 (p _ h1) (p _ hd) h3 q r]
theorem DN{AD:List (Addr×Obj)}{σ:St}{H:Hp}{s:Shared}(I:Inv X AD σ H s){x:Dat}{L:List Dat}(hL:L.all (AH 8)=true) :
  ∀{l:List Dat}{vs:List V}{us:List Value},(∀d∈l,d∈L)->RepL X.K H l vs->Vals vs us->us.any (B1 X.K H L x)=l.any fun d=>eqD d x
 |[],_,_,_,rl,rv=>by rw[RepL]at rl;subst rl;cases rv;rfl
 |d::l,_,_,hs,rl,rv=>by
  rw[RepL]at rl;obtain⟨v,r,rfl,r1,r2⟩:=rl;cases rv with
  |cons q1 q2=>
   rw[List.any_cons,List.any_cons,MM I hL (hs d List.mem_cons_self) q1 r1,DN I hL (fun e he=>hs e (List.mem_cons_of_mem _ he)) r2 q2]
theorem DJ{AD:List (Addr×Obj)}{σ:St}{H:Hp}{s:Shared}(I:Inv X AD σ H s){x:Dat}{y:V}{w:Value}{A:Around}(hx:AH 8 x=true)(rx:Rep X.K H x y)(ry:RelV y w)(hu:A.units+8<cLine){L:List Dat}(hL:L.all (AH 8)=true) :
  ∀{l:List Dat}{vs:List V}{us:List Value},(∀d∈l,d∈L)->RepL X.K H l vs->Vals vs us->∀u∈us,SeqAt.EqAt A s u w (B1 X.K H L x u)
 |[],_,_,_,rl,rv,u,hm=>by rw[RepL]at rl;subst rl;cases rv;cases hm
 |d::l,_,_,hs,rl,rv,u,hm=>by
  rw[RepL]at rl;obtain⟨v,r,rfl,r1,r2⟩:=rl;cases rv with
  |cons q1 q2=>
   rcases List.mem_cons.mp hm with e|hm
   ·subst e;rw[MM I hL (hs d List.mem_cons_self) q1 r1];exact(FZ 8 (List.all_eq_true.mp hL d (hs d List.mem_cons_self)) hx (r1.at I (List.all_eq_true.mp hL d (hs d List.mem_cons_self)) q1) (rx.at I hx ry) hu).1
   ·exact DJ I hx rx ry hu hL (fun e he=>hs e (List.mem_cons_of_mem _ he)) r2 q2 u hm
def dm(K:PySem.W.Frag)(neg:Bool):R2:=fun x y H Q=>∃p vs d l,y=.ref p/\(H p=some (.lst vs)\/SqT K H p vs)/\RepL K H l vs/\Rep K H d x/\AH 8 d=true/\l.all (AH 8)=true/\Q (.bl (if neg then !(l.any fun e=>eqD e d)else l.any fun e=>eqD e d)) H
theorem dF(hu:X.A.units+9<cLine):OpR X (compareOp .In) (dm X.K false):=by
 intro AD s σ H x y v u Q I rx ry h;obtain⟨p,vs,d,l,rfl,hq,rl,rd,pd,pl,q⟩:=h;cases ry;have FI:X.A.in1.units+8<cLine:=by show X.A.units+1+8<cLine;lia
 rcases hq with hq|hq
 ·obtain⟨AO,r,bO,hz⟩:=I.list (SqL.of hq);refine SeqAt.in_listAt (B1 X.K H l d) bO.isList (fun w hw=>DJ I pd rd rx FI pl (fun _ h=>h) rl r w (by simpa using hw)) ⟨.bl _,H,I,rfl,?_⟩;rw[show AO.toArray.any (B1 X.K H l d)=AO.any (B1 X.K H l d) by simp,DN I pl (fun _ h=>h) rl r];exact q
 ·obtain⟨AO,r,bO,hz⟩:=I.tuple hq;refine SeqAt.in_tupleAt (B1 X.K H l d) bO (fun w hw=>DJ I pd rd rx FI pl (fun _ h=>h) rl r w (by simpa using hw)) ⟨.bl _,H,I,rfl,?_⟩;rw[show AO.toArray.any (B1 X.K H l d)=AO.any (B1 X.K H l d) by simp,DN I pl (fun _ h=>h) rl r];exact q
theorem TK(hu:X.A.units+9<cLine):OpR X (compareOp .NotIn) (dm X.K true):=by
 intro AD s σ H x y v u Q I rx ry h;obtain⟨p,vs,d,l,rfl,hq,rl,rd,pd,pl,q⟩:=h;cases ry;have FI:X.A.in1.units+8<cLine:=by show X.A.units+1+8<cLine;lia
 rcases hq with hq|hq
 ·obtain⟨AO,r,bO,hz⟩:=I.list (SqL.of hq);refine SeqAt.notIn_listAt (B1 X.K H l d) bO.isList (fun w hw=>DJ I pd rd rx FI pl (fun _ h=>h) rl r w (by simpa using hw)) ⟨.bl _,H,I,rfl,?_⟩;rw[show AO.toArray.any (B1 X.K H l d)=AO.any (B1 X.K H l d) by simp,DN I pl (fun _ h=>h) rl r];exact q
 ·obtain⟨AO,r,bO,hz⟩:=I.tuple hq;refine SeqAt.notIn_tupleAt (B1 X.K H l d) bO (fun w hw=>DJ I pd rd rx FI pl (fun _ h=>h) rl r w (by simpa using hw)) ⟨.bl _,H,I,rfl,?_⟩;rw[show AO.toArray.any (B1 X.K H l d)=AO.any (B1 X.K H l d) by simp,DN I pl (fun _ h=>h) rl r];exact q
end
section
variable {X:Cx}{ρ:Rho}{G:Gs}{e a b c:Expr}{es:List Expr}{d d' d1 d2:Dat}{ds l m:List Dat}{pos:Pos}{i j k:Int}
theorem AX(ha:PX X ρ G a (.int i))(hb:PX X ρ G b (.int j)):PX X ρ G (.BinOp a .Add b pos) (.int (i+j)):=ME cb ha hb fun H x y Q o hx hy k=>⟨i,j,hx,hy,k _ _ (Ba o rfl)⟩
theorem Az(ha:PX X ρ G a (.int i))(hb:PX X ρ G b (.int j)):PX X ρ G (.BinOp a .Sub b pos) (.int (i-j)):=ME bB ha hb fun H x y Q o hx hy k=>⟨i,j,hx,hy,k _ _ (Ba o rfl)⟩
theorem KY(ha:PX X ρ G a (.int i))(hb:PX X ρ G b (.int j))(hc:CMul i j):PX X ρ G (.BinOp a .Mult b pos) (.int (i*j)):=ME cH ha hb fun H x y Q o hx hy k=>⟨i,j,hx,hy,hc,k _ _ (Ba o rfl)⟩
theorem HA(ha:PX X ρ G a (.int i))(hb:PX X ρ G b (.int j))(hc:0<j):PX X ρ G (.BinOp a .Mod b pos) (.int (i%j)):=ME cz ha hb fun H x y Q o hx hy k=>⟨i,j,hx,hy,hc,k _ _ (Ba o rfl)⟩
theorem Ng(ha:PX X ρ G a (.int i))(hb:PX X ρ G b (.int j))(hc:fC i j):PX X ρ G (.BinOp a .FloorDiv b pos) (.int (i / j)):=ME YT ha hb fun H x y Q o hx hy k=>⟨i,j,hx,hy,hc,k _ _ (Ba o rfl)⟩
theorem Eb(ha:PX X ρ G a (.int i)):PX X ρ G (.UnaryOp .USub a pos) (.int (-i)):=Bb (fG bZ Av) fun σ H S=>⟨ρ,G,_,ha,S,fun x H1 ⟨_,_,e1,o1,r1,q1,BZ⟩=>by
  subst q1;subst BZ;exact⟨i,r1,Po.trans e1 (Ba o1 rfl)⟩⟩
def PXC(X:Cx)(ρ:Rho)(G:Gs)(op:CmpOp)(a b:Expr)(d:Dat):Prop:=∀(AD:List (Addr×Obj))(s:Shared)(σ:St)(H:Hp),Inv X AD σ H s->Stt X H σ ρ G →
  wpAny (model X.prog X.w) X.A (eval a X.env) (fun v s₁=>wpAny (model X.prog X.w) X.A (eval b X.env) (fun u s₂=>wpAny (model X.prog X.w) X.A (compareOp op v u) (EP X AD σ (Po X H G fun d' G'=>d'=d/\G'=G)) X.xe s₂) X.xe s₁) X.xe s
theorem EM{op:CmpOp}{r:R2}(ho:OpR X (compareOp op) r)(ha:PX X ρ G a d1)(hb:PX X ρ G b d2)(hr:∀(H:Hp)(x y:V)(Q:VK),GOk X.K H G->Rep X.K (hid H G) d1 x->Rep X.K (hid H G) d2 y->(∀v H',Po X H G (fun d' G'=>d'=d/\G'=G) v H'->Q v H')->r x y H Q):PXC X ρ G op a b d:=by intro AD s σ H I S;refine thn (ha AD s σ H I S) fun v s1 ⟨x,H1,I1,rx,_,_,e1,o1,r1,q1,BZ⟩=>?_;subst q1;subst BZ;refine thn (hb AD s1 σ H1 I1 (S.ext e1 o1)) fun u s2 ⟨y,H2,I2,ry,_,_,e2,o2,r2,q2,G6⟩=>?_;subst q2;subst G6;exact ho AD s2 σ H2 x y v u _ I2 rx ry (hr H2 x y _ o2 (r1.same e2.hid) r2 fun v H' z=>Po.trans (e1.trans e2) z)
theorem GV{op:CmpOp}(h:PXC X ρ G op a b d)(hm:behindInMarks op b=false:=by first|exact N9 _ (by decide) (by decide)|rfl):PX X ρ G (.Compare a [op] [b] pos) d:=fun AD s σ H I S=>wpAny_Compare1 (h AD s σ H I S) hm
theorem BK{op:CmpOp}{p:Bool}(h:PXC X ρ G op a b (.bl p))(hm:behindInMarks op b=false:=by first|exact N9 _ (by decide) (by decide)|rfl):PXT X ρ G (.Compare a [op] [b] pos) p:=by intro AD s σ H I S;refine wpAny_isTrue_Compare1 (thn (h AD s σ H I S) fun v s1 h1=>thn h1 fun u s2 h2=>thn h2 fun c s3 ⟨x,H1,I1,r1,_,_,e1,o1,q1,q2,G6⟩=>?_) hm;subst q2;subst G6;cases (show x=V.bl p from q1);cases r1;exact wpAny_truthy_bool ⟨H1,I1,_,e1,o1,rfl,rfl⟩
theorem RE(ha:PX X ρ G a (.int i))(hb:PX X ρ G b (.int j)):PXC X ρ G .Lt a b (.bl (decide (i<j))):=EM eE ha hb fun H x y Q o hx hy k=>⟨i,j,hx,hy,k _ _ (Ba o rfl)⟩
theorem Qf(ha:PX X ρ G a (.int i))(hb:PX X ρ G b (.int j)):PXC X ρ G .Gt a b (.bl (decide (j<i))):=EM eM ha hb fun H x y Q o hx hy k=>⟨i,j,hx,hy,k _ _ (Ba o rfl)⟩
theorem Cb(ha:PX X ρ G a (.int i))(hb:PX X ρ G b (.int j)):PXC X ρ G .Eq a b (.bl (i==j)):=EM gD ha hb fun H x y Q o hx hy k=>by
  cases (show x=V.int i from hx);cases (show y=V.int j from hy);exact⟨rfl,by rw[JS];exact k _ _ (Ba o rfl)⟩
theorem Xs(ha:PX X ρ G a (.int i))(hb:PX X ρ G b (.int j)):PXC X ρ G .NotEq a b (.bl (!(i==j))):=EM eP ha hb fun H x y Q o hx hy k=>by
  cases (show x=V.int i from hx);cases (show y=V.int j from hy);exact⟨rfl,by rw[JS];exact k _ _ (Ba o rfl)⟩
theorem QC(hu:X.A.units+9<cLine)(ha:PX X ρ G a d1)(hb:PX X ρ G b d2)(p1:AH 9 d1=true)(p2:AH 9 d2=true):PXC X ρ G .Eq a b (.bl (eqD d1 d2)):=EM (bY hu) ha hb fun H x y Q o hx hy k=>⟨d1,d2,hx.same AJ,hy.same AJ,p1,p2,k _ _ (Ba o rfl)⟩
theorem in_of{H:Hp}{K:PySem.W.Frag}{y:V}(hy:Rep K (hid H G) (.tup l) y\/Rep K (hid H G) (.lst l) y):∃p vs,y=.ref p/\(H p=some (.lst vs)\/SqT K H p vs)/\RepL K H l vs:=by
 rcases hy with hy|hy
 ·rw[Rep]at hy;obtain⟨p,vs,e,h1,h2⟩:=hy;exact⟨p,vs,e,.inr (An AJ h1),h2.same AJ⟩
 ·rw[Rep]at hy;obtain⟨p,vs,e,h1,h2⟩:=hy;exact⟨p,vs,e,.inl (AJ _ _ h1),h2.same AJ⟩
theorem Ds{op}(h:PX X ρ G a d):PX X ρ G (.BoolOp op [a] pos) d:=fun AD s σ H I S=>BoolOp_one (h AD s σ H I S)
theorem B8{rest:List Expr}{p q:Bool}(ha:PX X ρ G a (.bl p))(hb:p=true->PX X ρ G (.BoolOp .And (b::rest) pos) (.bl q)):PX X ρ G (.BoolOp .And (a::b::rest) pos) (.bl (p&&q)):=by
 intro AD s σ H I S;refine BoolOp_and (thn (ha AD s σ H I S) fun v s1 ⟨x,H1,I1,r1,_,_,e1,o1,rx,q1,BZ⟩=>?_);subst q1;subst BZ;cases (show x=V.bl p from rx);cases r1;refine wpAny_truthy_bool ?_;cases p with
 |true=>exact thn (hb rfl AD s1 σ H1 I1 (S.ext e1 o1)) fun _ _ z=>EP.mono z fun _ _ y=>Po.trans e1 y
 |false=>exact⟨.bl false,H1,I1,rfl,.bl false,_,e1,o1,rfl,rfl,rfl⟩
theorem Mq{p:Bool}(ha:PX X ρ G a (.bl p)):PX X ρ G (.UnaryOp .Not a pos) (.bl (!p)):=by intro AD s σ H I S;refine UnaryOp_ (thn (ha AD s σ H I S) fun v s1 ⟨x,H1,I1,r1,_,_,e1,o1,rx,q1,BZ⟩=>?_);subst q1;subst BZ;cases (show x=V.bl p from rx);cases r1;exact not_of (wpAny_truthy_bool ⟨.bl (!p),H1,I1,rfl,.bl (!p),_,e1,o1,rfl,rfl,rfl⟩)
def PXW(X:Cx)(ρ:Rho)(G:Gs)(e:Expr)(b:Bool):Prop:=∀(whole:Sem Value)(AD:List (Addr×Obj))(s:Shared)(σ:St)(H:Hp),Inv X AD σ H s->Stt X H σ ρ G->wpAny (model X.prog X.w) X.A (isTrue e X.env whole) (TP X AD σ (PoT X H G fun b' G'=>b'=b/\G'=G)) X.xe s
theorem PXW.t{p:Bool}(h:PXW X ρ G e p):PXT X ρ G e p:=fun AD s σ H I S=>h _ AD s σ H I S
theorem DO{p:Bool}{Q:Bool->Gs->Prop}(h:PXT X ρ G e p)(q:Q p G):WT X ρ G e Q:=fun AD s σ H I S=>thn (h AD s σ H I S) fun _ _ z=>TP.mono z fun _ _ ⟨_,e,o,q1,q2⟩=>by
 subst q1;subst q2;exact⟨_,e,o,q⟩
theorem D8{p:Bool}(h:PXT X ρ G a p):PXW X ρ G (.BoolOp .And [a] pos) p:=by
 intro wh AD s σ H I S;refine isTrue_and (thn (h AD s σ H I S) fun c s1 e=>?_);cases c with
 |true=>exact isTrue_and_nil e
 |false=>exact e
theorem JW{p:Bool}(h:PXT X ρ G a p):PXW X ρ G (.BoolOp .Or [a] pos) p:=by
 intro wh AD s σ H I S;refine isTrue_or (thn (h AD s σ H I S) fun c s1 e=>?_);cases c with
 |false=>exact isTrue_or_nil e
 |true=>exact e
theorem C6{rest:List Expr}{p q:Bool}(ha:PXT X ρ G a p)(hb:p=true->PXW X ρ G (.BoolOp .And (b::rest) pos) q):PXW X ρ G (.BoolOp .And (a::b::rest) pos) (p&&q):=by
 intro wh AD s σ H I S;refine isTrue_and (thn (ha AD s σ H I S) fun c s1 ⟨H1,I1,_,e1,o1,q1,q2⟩=>?_);subst q1;subst q2;cases c with
 |true=>exact thn (hb rfl wh AD s1 σ H1 I1 (S.ext e1 o1)) fun _ _ z=>TP.mono z fun _ _ y=>PoT.trans e1 y
 |false=>exact⟨H1,I1,_,e1,o1,rfl,rfl⟩
theorem Mc{rest:List Expr}{p q:Bool}(ha:PXT X ρ G a p)(hb:p=false->PXW X ρ G (.BoolOp .Or (b::rest) pos) q):PXW X ρ G (.BoolOp .Or (a::b::rest) pos) (p||q):=by
 intro wh AD s σ H I S;refine isTrue_or (thn (ha AD s σ H I S) fun c s1 ⟨H1,I1,_,e1,o1,q1,q2⟩=>?_);subst q1;subst q2;cases c with
 |false=>exact thn (hb rfl wh AD s1 σ H1 I1 (S.ext e1 o1)) fun _ _ z=>TP.mono z fun _ _ y=>PoT.trans e1 y
 |true=>exact⟨H1,I1,_,e1,o1,rfl,rfl⟩
theorem CL{p:Bool}(ha:PXT X ρ G a p):PXT X ρ G (.UnaryOp .Not a pos) (!p):=by intro AD s σ H I S;refine isTrue_not (Q:=TP X AD σ (PoT X H G fun b' G'=>b'=(!p)/\G'=G)) (thn (ha AD s σ H I S) fun c s1 ⟨H1,I1,_,e1,o1,q1,q2⟩=>?_);subst q1;subst q2;exact⟨H1,I1,_,e1,o1,rfl,rfl⟩
theorem B6{p:Bool}(h:PX X ρ G e (.bl p))(he:∀whole,isTrue e X.env whole=(do let v <-whole;standAt e.pos;holding [v] (truthy v)):=by intro _;rfl):PXT X ρ G e p:=by intro AD s σ H I S;refine isTrue_plain (thn (h AD s σ H I S) fun v s1 ⟨x,H1,I1,r1,_,_,e1,o1,rx,q1,BZ⟩=>?_) (he _);subst q1;subst BZ;cases (show x=V.bl p from rx);cases r1;exact wpAny_truthy_bool ⟨H1,I1,_,e1,o1,rfl,rfl⟩
def cm:Dat->Option Bool
 |.non=>some false
 |.bl b=>some b
 |.int i=>some (i != 0)
 |.tup l=>some (!l.isEmpty)
 |.lst l=>some (!l.isEmpty)
 |_=>none
theorem Yp{K:PySem.W.Frag}{H:Hp}{v:V}{p:Bool}(h:cm d=some p)(r:Rep K (hid H G) d v):ba K v H p:=by
 cases d<;>simp only[cm,Option.some.injEq,reduceCtorEq]at h<;>subst h<;>rw[Rep]at r
 ·subst r;rfl
 ·subst r;rfl
 ·subst r;rfl
 ·obtain⟨a,vs,rfl,h1,h2⟩:=r;refine .inr (.inl ⟨vs,An AJ h1,?_⟩)
  have:=h2.length
  rename_i l;cases l<;>cases vs<;>simp_all
 ·obtain⟨a,vs,rfl,h1,h2⟩:=r;refine .inl ⟨vs,SqL.of (AJ _ _ h1),?_⟩
  have:=h2.length
  rename_i l;cases l<;>cases vs<;>simp_all
theorem GN{p:Bool}(h:PX X ρ G e d)(ht:cm d=some p)(he:∀whole,isTrue e X.env whole=(do let v <-whole;standAt e.pos;holding [v] (truthy v)):=by intro _;rfl):PXT X ρ G e p:=Vo (PC Av he) fun σ H S=>⟨ρ,G,_,h,S,fun x H1 ⟨_,_,e1,o1,r1,q1,BZ⟩=>by
  subst q1;subst BZ;exact⟨p,Yp ht r1,_,e1,o1,rfl,rfl⟩⟩
theorem AE:PXs X ρ G [] []:=Rp CW fun σ H S=>⟨[],G,Ext.refl,S.own,RepL.nil,rfl,rfl⟩
theorem AB(ha:PX X ρ G e d)(hr:PXs X ρ G es ds)(hs:starEach (e::es) X.env=(false,eval e X.env)::starEach es X.env:=by rfl):PXs X ρ G (e::es) (d::ds):=Rp (A7 Av J8 hs) fun σ H S=>⟨ρ,G,_,ha,S,fun x H1 ⟨_,_,e1,o1,r1,q1,BZ⟩=>by
  subst q1;subst BZ;refine⟨ρ,_,_,hr,S.ext e1 o1,fun xs H2 ⟨_,_,e2,o2,r2,q2,G6⟩=>?_⟩;subst q2;subst G6;exact⟨_,_,e1.trans e2,o2,RepL.cons (r1.same e2.hid) r2,rfl,rfl⟩⟩
theorem Nd{H:Hp}{p:Addr}{vs:List V}(o:GOk X.K H G)(hp:H p=none)(r:RepL X.K (hid H G) ds vs):Po X H G (fun d' G'=>d'=.tup ds/\G'=G) (.ref p) (upd H p (.tup vs)):=po1 (Ext.alloc hp) (o.alloc hp) (by rw[Rep];exact⟨p,vs,rfl,SqT.of (EY (o.free hp) Ax),r.same (Ext.alloc hp).hid⟩)
theorem ID{H:Hp}{p:Addr}{vs:List V}(o:GOk X.K H G)(hp:H p=none)(r:RepL X.K (hid H G) ds vs):Po X H G (fun d' G'=>d'=.lst ds/\G'=G) (.ref p) (upd H p (.lst vs)):=po1 (Ext.alloc hp) (o.alloc hp) (by rw[Rep];exact⟨p,vs,rfl,EY (o.free hp) Ax,r.same (Ext.alloc hp).hid⟩)
theorem AM{x1}(h:PXs X ρ G es ds)(hz:ds.length<=1000:=by first|decide|(simp;done)):PX X ρ G (.Tuple es x1 pos) (.tup ds):=Bb (cj J8) fun σ H S=>⟨ρ,G,_,h,S,fun vs H1 ⟨_,_,e1,o1,r1,q1,BZ⟩=>by
  subst q1;subst BZ;exact⟨by rw[r1.length];exact Nat.le_of_lt (Ia hz),fun p hp=>Po.trans e1 (Nd o1 hp r1)⟩⟩
theorem By(h:PXs X ρ G es ds)(hz:ds.length<=1000:=by first|decide|(simp;done)):PX X ρ G (.List es pos) (.lst ds):=Bb (XD J8) fun σ H S=>⟨ρ,G,_,h,S,fun vs H1 ⟨_,_,e1,o1,r1,q1,BZ⟩=>by
  subst q1;subst BZ;exact⟨by rw[r1.length];exact Nat.le_of_lt (Ia hz),fun p hp=>Po.trans e1 (ID o1 hp r1)⟩⟩
theorem Kt(ha:PX X ρ G a (.lst l))(hb:PX X ρ G b (.lst m))(hz:l.length+m.length<=sizeLine):PX X ρ G (.BinOp a .Add b pos) (.lst (l++m)):=ME Vx ha hb fun H x y Q o hx hy k=>by
  rw[Rep]at hx hy;obtain⟨p,vs,e1,h1,r1⟩:=hx;obtain⟨q,us,e2,h2,r2⟩:=hy;exact⟨p,q,vs,us,e1,e2,AJ _ _ h1,AJ _ _ h2,by rw[r1.length,r2.length];exact hz,fun t ht=>k _ _ (ID o ht (r1.append r2))⟩
theorem Rj{K:PySem.W.Frag}{H:Hp}{vs:List V}(r:RepL K H l vs)(h:atI l i=some d):∃v,atI vs i=some v/\Rep K H d v:=by
 unfold atI at h ⊢;rw[r.length];cases q:ixN l.length i with
 |none=>rw[q]at h;cases h
 |some j=>rw[q]at h;exact r.get h
theorem Ao(ha:PX X ρ G a (.tup l))(hb:PX X ρ G b (.int i))(hi:atI l i=some d)(hs:IC b:=by intro _ _;rfl):PX X ρ G (.Subscript a b pos) d:=Bb (Vc bQ Av Av hs) fun σ H S=>⟨ρ,G,_,ha,S,fun x H1 ⟨_,_,e1,o1,r1,q1,BZ⟩=>by
  subst q1;subst BZ;refine⟨ρ,_,_,hb,S.ext e1 o1,fun y H2 ⟨_,_,e2,o2,r2,q2,G6⟩=>?_⟩;subst q2;subst G6;have r1:=r1.same e2.hid;rw[Rep]at r1;obtain⟨p,vs,e3,h3,r3⟩:=r1;obtain⟨v,h4,r4⟩:=Rj r3 hi;exact⟨p,vs,i,v,e3,r2,An AJ h3,h4,Po.trans (e1.trans e2) (Ba o2 r4)⟩⟩
theorem Gu(ha:PX X ρ G a (.lst l))(hb:PX X ρ G b (.int i))(hi:atI l i=some d)(hs:IC b:=by intro _ _;rfl):PX X ρ G (.Subscript a b pos) d:=Bb (Vc R8 Av Av hs) fun σ H S=>⟨ρ,G,_,ha,S,fun x H1 ⟨_,_,e1,o1,r1,q1,BZ⟩=>by
  subst q1;subst BZ;refine⟨ρ,_,_,hb,S.ext e1 o1,fun y H2 ⟨_,_,e2,o2,r2,q2,G6⟩=>?_⟩;subst q2;subst G6;have r1:=r1.same e2.hid;rw[Rep]at r1;obtain⟨p,vs,e3,h3,r3⟩:=r1;obtain⟨v,h4,r4⟩:=Rj r3 hi;exact⟨p,vs,i,v,e3,r2,SqL.of (AJ _ _ h3),h4,Po.trans (e1.trans e2) (Ba o2 r4)⟩⟩
theorem a6{ns:List Int}{z:Int}(ha:PX X ρ G a (.scr ns))(hb:PX X ρ G b (.int i))(hi:atI ns i=some z)(hs:IC b:=by intro _ _;rfl):PX X ρ G (.Subscript a b pos) (.int z):=Bb (Vc R8 Av Av hs) fun σ H S=>⟨ρ,G,_,ha,S,fun x H1 ⟨_,_,e1,o1,r1,q1,BZ⟩=>by
  subst q1;subst BZ;refine⟨ρ,_,_,hb,S.ext e1 o1,fun y H2 ⟨_,_,e2,o2,r2,q2,G6⟩=>?_⟩;subst q2;subst G6;have r1:=r1.same e2.hid;rw[Rep]at r1;obtain⟨p,e3,h3⟩:=r1;refine⟨p,_,i,V.int z,e3,r2,Same.seq AJ h3,?_,Po.trans (e1.trans e2) (Ba o2 rfl)⟩;unfold atI at hi ⊢;rw[List.length_map];cases q:ixN ns.length i with
  |none=>rw[q]at hi;cases hi
  |some j=>rw[q]at hi;show(ns.map V.int)[j]?=_;rw[List.getElem?_map,show ns[j]?=some z from hi];rfl⟩
theorem Co{f:Str}{id:String}{r:List V->Hp->VK->Prop}{p:Pos}(hc:Bi X (.builtin id) r)(hg:Gl X f)(hm:X.mg f=none)(hv:bootBuiltins f=some (.builtin id))(ha:PX X ρ G a d1)(hr:∀(H:Hp)(x:V)(Q:VK),GOk X.K H G->Rep X.K (hid H G) d1 x->(∀v H',Po X H G (fun d' G'=>d'=d/\G'=G) v H'->Q v H')->r [x] H Q)(hn:f≠"__name__":=by decide)(HJ:(f==("__debug__":Str))=false:=by decide)(he:starEach [a] X.env=(false,eval a X.env)::starEach [] X.env:=by rfl):PX X ρ G (.Call (.Name f p) [a] [] pos) d:=Bb (D0 hc hg hm hv (A7 Av CW he) hn HJ he rfl) fun σ H S=>⟨ρ,G,_,ha,S,fun x H1 ⟨_,_,e1,o1,r1,q1,BZ⟩=>by
  subst q1;subst BZ;exact hr H1 x _ o1 r1 fun v H' z=>Po.trans e1 z⟩
theorem UQ{f:Str}{T:String}{r:List V->Hp->VK->Prop}{p:Pos}(hc:Bi X (.type T) r)(hg:Gl X f)(hm:X.mg f=none)(hv:bootBuiltins f=some (.type T))(ha:PX X ρ G a d1)(hr:∀(H:Hp)(x:V)(Q:VK),GOk X.K H G->Rep X.K (hid H G) d1 x->(∀v H',Po X H G (fun d' G'=>d'=d/\G'=G) v H'->Q v H')->r [x] H Q)(hn:f≠"__name__":=by decide)(HJ:(f==("__debug__":Str))=false:=by decide)(he:starEach [a] X.env=(false,eval a X.env)::starEach [] X.env:=by rfl):PX X ρ G (.Call (.Name f p) [a] [] pos) d:=Bb (L3 hc hg hm hv (A7 Av CW he) hn HJ he rfl) fun σ H S=>⟨ρ,G,_,ha,S,fun x H1 ⟨_,_,e1,o1,r1,q1,BZ⟩=>by
  subst q1;subst BZ;exact hr H1 x _ o1 r1 fun v H' z=>Po.trans e1 z⟩
def Nb(G:Gs):Dat->Option Nat
 |.tup l=>some l.length
 |.lst l=>some l.length
 |.scr ns=>some ns.length
 |.fn p=>match G p with|some (.lst l)=>some l.length|_=>none
 |_=>none
theorem ZN{K:PySem.W.Frag}{H:Hp}{v:V}{n:Nat}(h:Nb G d=some n)(o:GOk K H G)(r:Rep K (hid H G) d v):∃p ys,v=.ref p/\(SqL K H p ys\/SqT K H p ys)/\ys.length=n:=by
 cases d<;>simp only[Nb,Option.some.injEq,reduceCtorEq]at h<;>rw[Rep]at r
 ·split at h
  ·rename_i p l hG;cases h;obtain⟨vs,h3,r3⟩:=o _ _ hG;exact⟨_,vs,r,.inl (SqL.of h3),r3.length⟩
  ·cases h
 ·obtain⟨p,e,q⟩:=r;exact⟨p,_,e,.inl (Same.seq AJ q),by rw[List.length_map];exact h⟩
 ·obtain⟨p,vs,e,q,r⟩:=r;exact⟨p,vs,e,.inr (An AJ q),by rw[r.length];exact h⟩
 ·obtain⟨p,vs,e,q,r⟩:=r;exact⟨p,vs,e,.inl (SqL.of (AJ _ _ q)),by rw[r.length];exact h⟩
theorem CG{n:Nat}{p:Pos}(hg:Gl X "len")(hm:X.mg "len"=none)(ha:PX X ρ G a d1)(h:Nb G d1=some n)(he:starEach [a] X.env=(false,eval a X.env)::starEach [] X.env:=by rfl):PX X ρ G (.Call (.Name "len" p) [a] [] pos) (.int n):=Co MQ hg hm PySem.boot_len ha (fun H x Q o r k=>by
  obtain⟨q,ys,e,hq,hl⟩:=ZN h o r;exact⟨q,ys,by rw[e],hq,k _ _ (Ba o (by rw[hl];rfl))⟩) (he:=he)
theorem GF{p:Pos}(hg:Gl X "tuple")(hm:X.mg "tuple"=none)(hv:bootBuiltins "tuple"=some (.type "tuple"))(ha:PX X ρ G a (.lst l))(he:starEach [a] X.env=(false,eval a X.env)::starEach [] X.env:=by rfl):PX X ρ G (.Call (.Name "tuple" p) [a] [] pos) (.tup l):=UQ LP hg hm hv ha (fun H x Q o r k=>by
  rw[Rep]at r;obtain⟨q,vs,e,h1,r1⟩:=r;exact⟨q,vs,by rw[e],.inl ⟨SqL.of (AJ _ _ h1),fun t ht=>k _ _ (Nd o ht r1)⟩⟩) (he:=he)
end
structure DE where
 nx:Rho->Gs->Prop
 rt:Dat->Gs->Prop
 bk:Rho->Gs->Prop:=fun _ _=>False
 ct:Rho->Gs->Prop:=fun _ _=>False
def lft(X:Cx)(H:Hp)(G:Gs)(q:Rho->Gs->Prop):St->Hp->Prop:=fun σ' H'=>∃ρ' G',Ext H G H' G'/\Stt X H' σ' ρ' G'/\q ρ' G'
def Gk(X:Cx)(H:Hp)(G:Gs)(D:DE):Ends where
 nx:=lft X H G D.nx
 rt:=Po X H G D.rt
 bk:=lft X H G D.bk
 ct:=lft X H G D.ct
def WS(X:Cx)(ρ:Rho)(G:Gs)(st:Stmt)(D:DE):Prop:=∀(AD:List (Addr×Obj))(s:Shared)(σ:St)(H:Hp),Inv X AD σ H s->Stt X H σ ρ G->wpAny (model X.prog X.w) X.A (exec st X.env) (SP X AD (Gk X H G D)) X.xe s
def WSs(X:Cx)(ρ:Rho)(G:Gs)(st:List Stmt)(D:DE):Prop:=∀(AD:List (Addr×Obj))(s:Shared)(σ:St)(H:Hp),Inv X AD σ H s->Stt X H σ ρ G->wpAny (model X.prog X.w) X.A (execs st X.env) (SP X AD (Gk X H G D)) X.xe s
theorem SP.le{X:Cx}{AD:List (Addr×Obj)}{D D':Ends}{f:Flow}{s:Shared}(h:SP X AD D f s)(h1:∀σ H,D.nx σ H->D'.nx σ H)(h2:∀v H,D.rt v H->D'.rt v H)(h3:∀σ H,D.bk σ H->D'.bk σ H)(h4:∀σ H,D.ct σ H->D'.ct σ H):SP X AD D' f s:=by
 cases f with
 |next=>obtain⟨σ,H,I,q⟩:=h;exact⟨σ,H,I,h1 _ _ q⟩
 |brk=>obtain⟨σ,H,I,q⟩:=h;exact⟨σ,H,I,h3 _ _ q⟩
 |cont=>obtain⟨σ,H,I,q⟩:=h;exact⟨σ,H,I,h4 _ _ q⟩
 |ret u=>obtain⟨v,σ,H,I,r,q⟩:=h;exact⟨v,σ,H,I,r,h2 _ _ q⟩
theorem D5{X:Cx}{H H1:Hp}{G G1:Gs}{q:Rho->Gs->Prop}(e:Ext H G H1 G1){σ:St}{H':Hp}(h:lft X H1 G1 q σ H'):lft X H G q σ H':=let ⟨ρ',G',e',S,q⟩:=h;⟨ρ',G',e.trans e',S,q⟩
theorem Kl{X:Cx}{H:Hp}{G:Gs}{q q':Rho->Gs->Prop}(k:∀ρ G,q ρ G->q' ρ G){σ:St}{H':Hp}(h:lft X H G q σ H'):lft X H G q' σ H':=let ⟨ρ',G',e',S,q⟩:=h;⟨ρ',G',e',S,k _ _ q⟩
theorem SP.trans{X:Cx}{AD:List (Addr×Obj)}{D:DE}{f:Flow}{s:Shared}{H H1:Hp}{G G1:Gs}(e:Ext H G H1 G1)(h:SP X AD (Gk X H1 G1 D) f s):SP X AD (Gk X H G D) f s:=SP.le h (fun _ _ q=>D5 e q) (fun _ _ q=>Po.trans e q) (fun _ _ q=>D5 e q) (fun _ _ q=>D5 e q)
section
variable {X:Cx}{ρ:Rho}{G:Gs}{e a b c:Expr}{es:List Expr}{d d' d1 d2:Dat}{ds l m:List Dat}{pos:Pos}{D:DE}{rest body:List Stmt}{st:Stmt}
theorem AK(h:D.nx ρ G):WSs X ρ G [] D:=fun AD s σ H I S=>wpAny_execs_nil ⟨σ,H,I,ρ,G,Ext.refl,S,h⟩
theorem BY(h:WS X ρ G st { D with nx:=fun ρ' G'=>WSs X ρ' G' rest D }):WSs X ρ G (st::rest) D:=by
 intro AD s σ H I S;refine wpAny_execs_cons (thn (h AD s σ H I S) fun f s1 q=>?_);cases f with
 |next=>
  obtain⟨σ',H',I',ρ',G',e',S',q⟩:=q;exact thn (q AD s1 σ' H' I' S') fun _ _ z=>SP.trans e' z
 |ret v=>exact q
 |brk=>exact q
 |cont=>exact q
theorem XQ{t:TS}(h:PS X st t)(hq:∀σ H,Stt X H σ ρ G->t (Gk X H G D) σ H):WS X ρ G st D:=fun AD s σ H I S=>h AD s σ H _ I (hq σ H S)
def f7(X:Cx)(st:List Stmt):TS:=fun D' σ H=>∃ρ G D,WSs X ρ G st D/\Stt X H σ ρ G/\(∀σ' H',(Gk X H G D).nx σ' H'->D'.nx σ' H')/\(∀v H',(Gk X H G D).rt v H'->D'.rt v H')/\(∀σ' H',(Gk X H G D).bk σ' H'->D'.bk σ' H')/\(∀σ' H',(Gk X H G D).ct σ' H'->D'.ct σ' H')
theorem bN{st:List Stmt}:PSs X st (f7 X st):=fun AD s σ H D' I ⟨ρ,G,D,h,S,h1,h2,h3,h4⟩=>thn (h AD s σ H I S) fun _ _ q=>SP.le q h1 h2 h3 h4
theorem WSs.mono{st:List Stmt}{D':DE}(h:WSs X ρ G st D)(h1:∀ρ G,D.nx ρ G->D'.nx ρ G)(h2:∀d G,D.rt d G->D'.rt d G)(h3:∀ρ G,D.bk ρ G->D'.bk ρ G)(h4:∀ρ G,D.ct ρ G->D'.ct ρ G):WSs X ρ G st D':=fun AD s σ H I S=>
 thn (h AD s σ H I S) fun _ _ q=>SP.le q (fun _ _ z=>Kl h1 z) (fun _ _ z=>Po.mono z h2) (fun _ _ z=>Kl h3 z) (fun _ _ z=>Kl h4 z)
theorem Cf(h:WE X ρ G e D.rt):WSs X ρ G (.Return (some e) pos::rest) D:=BY fun AD s σ H I S=>
 wpAny_Return_some (thn (h AD s σ H I S) fun v s1 ⟨x,H1,I1,r1,q1⟩=>⟨x,σ,H1,I1,r1,q1⟩)
theorem AS(h:PX X ρ G e d)(q:D.rt d G):WSs X ρ G (.Return (some e) pos::rest) D:=Cf (h.we q)
theorem BP(i:Nat){x:Str}{pos':Pos}(hN:X.N.Nodup)(h:WE X ρ G e fun d G'=>WSs X (ρ.set i (some d)) G' rest D)(hi:X.N[i]?=some x:=by rfl)(hx:Loc X.env.scope x:=by first|exact Or.inl rfl|exact Or.inr rfl)(hs:swapsWith e (some (.Name x pos')) pos.line X.env=pure false:=by rfl)(hf:X.fn x=true\/X.env.scope.names.lookup x=some .local:=by first|exact .inl rfl|exact .inr rfl|assumption):WSs X ρ G (.Assign [.Name x pos'] e pos::rest) D:=BY (XQ (WW (i:=i) hN hi hx Av hs hf) fun σ H S=>⟨ρ,G,_,h,S,fun v H' ⟨d,G',e',o',r',q'⟩=>⟨_,G',e',(S.ext e' o').set r',q'⟩⟩)
theorem AV(i:Nat){x:Str}{pos':Pos}(hN:X.N.Nodup)(h:PX X ρ G e d)(q:WSs X (ρ.set i (some d)) G rest D)(hi:X.N[i]?=some x:=by rfl)(hx:Loc X.env.scope x:=by first|exact Or.inl rfl|exact Or.inr rfl)(hs:swapsWith e (some (.Name x pos')) pos.line X.env=pure false:=by rfl)(hf:X.fn x=true\/X.env.scope.names.lookup x=some .local:=by first|exact .inl rfl|exact .inr rfl|assumption):WSs X ρ G (.Assign [.Name x pos'] e pos::rest) D:=BP i hN (h.we q) hi hx hs hf
def PGD(X:Cx)(tg:Expr)(f:Dat->Rho->Option Rho):Prop:=∀(AD:List (Addr×Obj))(s:Shared)(σ:St)(H:Hp)(v:V)(u:Value)(ρ ρ':Rho)(G:Gs)(d:Dat),Inv X AD σ H s->RelV v u->Stt X H σ ρ G->Rep X.K (hid H G) d v->f d ρ=some ρ' →
  wpAny (model X.prog X.w) X.A (assign tg X.env u) (fun _ s'=>∃σ' H',Inv X AD σ' H' s'/\Ext H G H' G/\Stt X H' σ' ρ' G) X.xe s
def Ck(i:Nat):Dat->Rho->Option Rho:=fun d ρ=>some (ρ.set i (some d))
def Ej(i j:Nat):Dat->Rho->Option Rho:=fun d ρ=>match d with
 |.tup [a,b]=>some ((ρ.set i (some a)).set j (some b))
 |_=>none
theorem Af(i:Nat){x:Str}(hN:X.N.Nodup)(hi:X.N[i]?=some x:=by rfl)(hx:Loc X.env.scope x:=by first|exact Or.inl rfl|exact Or.inr rfl)(hf:X.fn x=true\/X.env.scope.names.lookup x=some .local:=by first|exact .inl rfl|exact .inr rfl|assumption):PGD X (.Name x pos) (Ck i):=by intro AD s σ H v u ρ ρ' G d I r S q e;cases e;exact GO hN hi hx hf AD s σ H v u (fun σ' H'=>Ext H G H' G/\Stt X H' σ' _ G) I r ⟨Ext.refl,S.set q⟩
theorem Cr(i j:Nat){x y:Str}{px py:Pos}{k:Nat}(hc:X.calm=true)(hN:X.N.Nodup)(hi:X.N[i]?=some x:=by rfl)(hj:X.N[j]?=some y:=by rfl)(hx:Loc X.env.scope x:=by first|exact Or.inl rfl|exact Or.inr rfl)(hy:Loc X.env.scope y:=by first|exact Or.inl rfl|exact Or.inr rfl)(jN:X.fn x=true\/X.env.scope.names.lookup x=some .local:=by first|exact .inl rfl|exact .inr rfl|assumption)(kX:X.fn y=true\/X.env.scope.names.lookup y=some .local:=by first|exact .inl rfl|exact .inr rfl|assumption):PGD X (.Tuple [.Name x px,.Name y py] k pos) (Ej i j):=by
 intro AD s σ H v u ρ ρ' G d I r S q e;cases d<;>simp only[Ej,reduceCtorEq]at e;rename_i l
 match l,e,q with
 |[a,b],e,q=>
  simp only[Option.some.injEq]at e;subst e;rw[Rep]at q;obtain⟨p,vs,rfl,h1,h2⟩:=q;rw[RepL]at h2;obtain⟨v1,r1,rfl,q1,h2⟩:=h2;rw[RepL]at h2;obtain⟨v2,r2,rfl,q2,h2⟩:=h2;rw[RepL]at h2;subst h2;exact Uq (n:=2) hc (Fs (GO hN hi hx jN) (Fs (GO hN hj hy kX) Sb)) rfl rfl AD s σ H (.ref p) u (fun σ' H'=>Ext H G H' G/\Stt X H' σ' _ G) I r
   ⟨p,[v1,v2],rfl,An AJ h1,rfl,v1,[v2],rfl,v2,[],rfl,rfl,Ext.refl,(S.set q1).set q2⟩
 |[],e,_=>simp at e
 |[_],e,_=>simp at e
 |_::_::_::_,e,_=>simp at e
theorem Jk{tg:Expr}{f:Dat->Rho->Option Rho}{ρ':Rho}(hg:PGD X tg f)(h:PX X ρ G e d)(hf:f d ρ=some ρ')(q:WSs X ρ' G rest D)(hs:swapsWithSole [tg] e pos.line X.env=pure false:=by rfl)(hw:swappedStores [tg] e X.env=pure none:=by rfl)(h1:(assignEach [tg] X.env).map (·.2)=[assign tg X.env]:=by rfl):WSs X ρ G (.Assign [tg] e pos::rest) D:=BY fun AD s σ H I S=>by
 refine wpAny_Assign_stores (thn (h AD s σ H I S) fun v s1 ⟨x,H1,I1,r1,_,_,e1,o1,rx,q1,BZ⟩=>?_) hs hw;subst q1;subst BZ;rw[h1];exact thn (hg AD s1 σ H1 x v ρ ρ' _ _ I1 r1 (S.ext e1 o1) rx hf) fun _ s2 ⟨σ2,H2,I2,e2,S2⟩=>⟨σ2,H2,I2,ρ',_,e1.trans e2,S2,q⟩
theorem ZX{x y:List Stmt}(hc:WT X ρ G c fun p G'=>(p=true->WSs X ρ G' x { D with nx:=fun ρ' G'=>WSs X ρ' G' rest D })/\(p=false->WSs X ρ G' y { D with nx:=fun ρ' G'=>WSs X ρ' G' rest D })):WSs X ρ G (.If c x y pos::rest) D:=BY fun AD s σ H I S=>by
 refine wpAny_If (thn (hc AD s σ H I S) fun p s1 ⟨H1,I1,G1,e1,o1,q1⟩=>?_);cases p with
 |true=>exact thn (q1.1 rfl AD s1 σ H1 I1 (S.ext e1 o1)) fun _ _ z=>SP.trans e1 z
 |false=>exact thn (q1.2 rfl AD s1 σ H1 I1 (S.ext e1 o1)) fun _ _ z=>SP.trans e1 z
theorem BH{x y:List Stmt}{p:Bool}(hc:PXT X ρ G c p)(ht:p=true->WSs X ρ G x { D with nx:=fun ρ' G'=>WSs X ρ' G' rest D })(hf:p=false->WSs X ρ G y { D with nx:=fun ρ' G'=>WSs X ρ' G' rest D }):WSs X ρ G (.If c x y pos::rest) D:=ZX (DO hc ⟨ht,hf⟩)
def Wk(K:PySem.W.Frag)(J:It)(H:Hp)(G:Gs)(l:List Dat):Prop:=∀H' G',Ext H G H' G'->(∀(i:Nat) d,l[i]?=some d->J.go i H'/\∀x Xh,J.yld i H' x Xh->Ext H' G' Xh G'/\(GOk K H' G'->GOk K Xh G')/\(GOk K H' G'->Rep K (hid Xh G') d x))/\J.stop l.length H'
def WI(X:Cx)(ρ:Rho)(G:Gs)(tg Ac:Expr)(Q:List Dat->Gs->Prop):Prop:=∀(AD:List (Addr×Obj))(s:Shared)(σ:St)(H:Hp),Inv X AD σ H s->Stt X H σ ρ G →
  wpAny (model X.prog X.w) X.A (eval Ac X.env) (fun v s1=>wpAny (model X.prog X.w) X.A (pyIter v) (PIE X AD σ tg fun J H'=>∃l G',Ext H G H' G'/\GOk X.K H' G'/\Wk X.K J H' G' l/\Q l G') X.xe s1) X.xe s
theorem YA{K:PySem.W.Frag}{H:Hp}{p:Addr}{vs:List V}(h:hid H G p=some (.lst vs))(r:RepL K (hid H G) l vs):Wk K (Itl K p) H G l:=by
 intro H' G' e;have h':=AJ _ _ (e.hid _ _ h);refine⟨fun i d hd=>?_,vs,SqL.of h',by rw[r.length];exact Nat.le_refl _⟩;obtain⟨v,hv,rv⟩:=r.get hd;refine⟨⟨vs,v,SqL.of h',hv⟩,fun x Xh ⟨e1,y⟩=>?_⟩;subst e1
 have:=y vs (SqL.of h')
 rw[hv]at this;cases this;exact⟨Ext.refl,fun o=>o,fun _=>rv.same e.hid⟩
theorem a9{K:PySem.W.Frag}{H:Hp}{p:Addr}{vs:List V}(h:SqT K (hid H G) p vs)(r:RepL K (hid H G) l vs):Wk K (Itt K p) H G l:=by
 intro H' G' e;have h':=An AJ (An e.hid h);refine⟨fun i d hd=>?_,vs,h',by rw[r.length];exact Nat.le_refl _⟩;obtain⟨v,hv,rv⟩:=r.get hd;refine⟨⟨vs,v,h',hv⟩,fun x Xh ⟨e1,y⟩=>?_⟩;subst e1
 have:=y vs h'
 rw[hv]at this;cases this;exact⟨Ext.refl,fun o=>o,fun _=>rv.same e.hid⟩
def BC(lo:Int)(n:Nat):List Dat:=(List.range n).map fun i=>.int (lo+(i:Nat))
theorem Ul{K:PySem.W.Frag}{H:Hp}{lo:Int}{n:Nat}:Wk K (Itr lo n) H G (BC lo n):=by
 intro H' G' e;refine⟨fun i d hd=>?_,by show n<=(BC lo n).length;simp[BC]⟩;have hi:i<n:=by
  have:=(List.getElem?_eq_some_iff.mp hd).1
  simpa[BC]using this
 refine⟨hi,fun x Xh ⟨e1,e2⟩=>?_⟩;subst e1;subst e2;refine⟨Ext.refl,fun o=>o,fun _=>?_⟩;have:(BC lo n)[i]?=some (.int (lo+i)):=by simp[BC,hi]
 rw[this]at hd;cases hd;rfl
theorem B5{tg Ac:Expr}{Q:List Dat->Gs->Prop}(h:WE X ρ G Ac fun d G'=>∃l,d=.lst l/\Q l G'):WI X ρ G tg Ac Q:=fun AD s σ H I S=>
 X5 Av AD s σ H _ I ⟨ρ,G,_,h,S,fun x H1 ⟨d,G',e1,o1,r1,l,q1,q⟩=>by
  subst q1;rw[Rep]at r1;obtain⟨p,vs,e2,h2,r2⟩:=r1;exact⟨p,e2,⟨vs,SqL.of (AJ _ _ h2)⟩,l,G',e1,o1,YA h2 r2,q⟩⟩
theorem YM{tg Ac:Expr}{Q:List Dat->Gs->Prop}(h:WE X ρ G Ac fun d G'=>∃l,d=.tup l/\Q l G'):WI X ρ G tg Ac Q:=fun AD s σ H I S=>
 cD Av AD s σ H _ I ⟨ρ,G,_,h,S,fun x H1 ⟨d,G',e1,o1,r1,l,q1,q⟩=>by
  subst q1;rw[Rep]at r1;obtain⟨p,vs,e2,h2,r2⟩:=r1;exact⟨p,e2,⟨vs,An AJ h2⟩,l,G',e1,o1,a9 h2 r2,q⟩⟩
theorem Je{tg Ac:Expr}{Q:List Dat->Gs->Prop}(h:PX X ρ G Ac (.lst l))(q:Q l G):WI X ρ G tg Ac Q:=B5 (h.we ⟨l,rfl,q⟩)
theorem FY{tg Ac:Expr}{Q:List Dat->Gs->Prop}(h:PX X ρ G Ac (.tup l))(q:Q l G):WI X ρ G tg Ac Q:=YM (h.we ⟨l,rfl,q⟩)
theorem Fz{tg:Expr}{Q:List Dat->Gs->Prop}{n:Int}{p:Pos}(hg:Gl X "range")(hm:X.mg "range"=none)(ha:PX X ρ G a (.int n))(h1:-(2 ^ 62)<=n)(h2:n<2 ^ 62)(q:Q (BC 0 n.toNat) G)(hs:starEach [a] X.env=[(false,eval a X.env)]:=by rfl):WI X ρ G tg (.Call (.Name "range" p) [a] [] pos) Q:=fun AD s σ H I S=>
 Tv hg hm (A7 Av CW hs) hs AD s σ H _ I ⟨ρ,G,_,ha,S,fun x H1 ⟨_,_,e1,o1,r1,q1,BZ⟩=>by
  subst q1;subst BZ;cases (show x=V.int n from r1);exact⟨n,rfl,h1,h2,_,_,e1,o1,Ul,q⟩⟩
theorem Lg{tg:Expr}{Q:List Dat->Gs->Prop}{i n:Int}{p:Pos}(hg:Gl X "range")(hm:X.mg "range"=none)(ha:PX X ρ G a (.int i))(hb:PX X ρ G b (.int n))(h0:-(2 ^ 62)<=i/\i<2 ^ 62/\-(2 ^ 62)<=n/\n<2 ^ 62)(q:Q (BC i (n-i).toNat) G)(hs:starEach [a,b] X.env=[(false,eval a X.env),(false,eval b X.env)]:=by rfl)(RF:starEach [b] X.env=[(false,eval b X.env)]:=by rfl):WI X ρ G tg (.Call (.Name "range" p) [a,b] [] pos) Q:=fun AD s σ H I S=>
 Sk hg hm (A7 Av (A7 Av CW RF) (by rw[hs,RF])) hs RF AD s σ H _ I ⟨ρ,G,_,ha,S,fun x H1 ⟨_,_,e1,o1,r1,q1,BZ⟩=>by
  subst q1;subst BZ;cases (show x=V.int i from r1);refine⟨ρ,_,_,hb,S.ext e1 o1,fun y H2 ⟨_,_,e2,o2,r2,q2,G6⟩=>?_⟩;subst q2;subst G6;cases (show y=V.int n from r2);exact⟨i,n,rfl,h0,_,_,e1.trans e2,o2,Ul,q⟩⟩
theorem BV{tg Ac:Expr}{f:Dat->Rho->Option Rho}(Pv:Nat->Rho->Gs->Prop)(hp:PassesOwn (model X.prog X.w) X.A X.env X.xe)(hc:X.calm=true)(hi:WI X ρ G tg Ac fun l' G'=>l'=l/\Pv 0 ρ G')(hg:PGD X tg f)(hs:∀(i:Nat) d ρ' G',l[i]?=some d->Pv i ρ' G'->∃ρ'',f d ρ'=some ρ''/\WSs X ρ'' G' body { nx:=Pv (i+1),ct:=Pv (i+1),bk:=fun ρ' G'=>WSs X ρ' G' rest D,rt:=D.rt })(hd:∀ρ' G',Pv l.length ρ' G'->WSs X ρ' G' rest D)(OZ:∀x,foldedSetIterable Ac X.env x=pure x:=by intro _;rfl):WSs X ρ G (.For tg Ac body [] pos::rest) D:=BY fun AD s σ H I S=>by
 refine wpAny_For (thn (hi AD s σ H I S) fun v s1 h1=>thn h1 fun dQ s2 h2=>?_) OZ;obtain⟨it,fp,tn,J,H2,e,I2,T,Ci,f2,l',G2,e2,o2,wk,q,p0⟩:=h2;subst e;subst q;have QZ:∀{H':Hp},(∀b∈fp,H' b=none)->∀b∈fp,IY X AD H' b:=fun hn b hb=>⟨hn b hb,(f2 b hb).2⟩;refine codeAny_forLoop_any (fun n s'=>∃i σ' H' ρ' G',i+n=l'.length/\Inv X AD σ' H' s'/\tn i s'.heap/\(∀b∈fp,H' b=none)/\Ext H2 G2 H' G'/\Stt X H' σ' ρ' G'/\Pv i ρ' G') ?_ l'.length
  ⟨0,σ,H2,ρ,G2,Nat.zero_add _,I2,Ci,fun b hb=>(f2 b hb).1,Ext.refl,S.ext e2 o2,p0⟩
 rintro n s3 ⟨i,σ3,H3,ρ3,G3,hn,I3,GR,n6,e3,S3,p3⟩;obtain⟨b7,jL⟩:=wk H3 G3 e3;cases n with
 |zero=>
  have TV:i=l'.length:=by lia
  subst TV;refine wpAny_passesOwn hp (thn (T.done X rfl rfl rfl hc _ AD s3 σ3 H3 X.xe I3 (QZ n6) GR jL) fun r s4 ⟨hr,I4⟩=>?_);subst hr;exact wpAny_execs_nil ⟨σ3,H3,I4,ρ3,G3,e2.trans e3,S3,hd ρ3 G3 p3⟩
 |succ n=>
  have Ar:i<l'.length:=by lia
  obtain⟨go,b7⟩:=b7 i _ (List.getElem?_eq_getElem Ar);obtain⟨ρ4,oM,w4⟩:=hs i _ ρ3 G3 (List.getElem?_eq_getElem Ar) p3;refine wpAny_passesOwn hp (thn (T.item X rfl rfl rfl hc i AD s3 σ3 H3 X.xe I3 (QZ n6) GR go) fun r s4 ⟨u,hr,h4⟩=>?_);subst hr;refine wpAny_passesOwn hp (thn h4 fun _ s5 ⟨x,H5,I5,r5,y5,bo,g8⟩=>?_);obtain⟨e5,o5,fS⟩:=b7 x H5 y5;have jf:=fS S3.own;have qQ:=I5.pinned (QZ g8) (T.obj _ _ bo);refine wpAny_passesOwn hp (thn (hg _ s5 σ3 H5 x u ρ3 ρ4 G3 _ qQ r5 (S3.ext e5 (o5 S3.own)) jf oM) fun _ s6 ⟨σ6,H6,I6,e6,S6⟩=>?_);refine wpAny_passesOwn hp (thn (w4 _ s6 σ6 H6 I6 S6) fun f s7 q7=>?_);have again:∀{σ7:St}{H7:Hp},Inv X (AD++NJ fp s5.heap) σ7 H7 s7->lft X H6 G3 (Pv (i+1)) σ7 H7->∃m,m<n+1/\∃i σ' H' ρ' G',i+m=l'.length/\Inv X AD σ' H' s7/\tn i s7.heap/\(∀b∈fp,H' b=none)/\Ext H2 G2 H' G'/\Stt X H' σ' ρ' G'/\Pv i ρ' G':=fun {σ7 H7} I7 ⟨ρ7,G7,e7,S7,p7⟩=>by
   refine⟨n,Nat.lt_succ_self _,i+1,σ7,H7,ρ7,G7,by lia,I7.unpinned,T.keep _ _ _ bo fun b hb o e=>(I7.pin (b,o) (List.mem_append_right _ (List.mem_append_right _ (Ef hb e)))).1,fun b hb=>?_,(e3.trans (e5.trans (e6.trans e7))),S7,p7⟩;obtain⟨o,e,d⟩:=T.obj _ _ bo b hb;exact(I7.pin (b,o) (List.mem_append_right _ (List.mem_append_right _ (Ef hb e)))).2.1
  have whole:Ext H G H6 G3:=e2.trans (e3.trans (e5.trans e6));cases f with
  |next=>obtain⟨σ7,H7,I7,n7⟩:=q7;exact again I7 n7
  |cont=>obtain⟨σ7,H7,I7,n7⟩:=q7;exact again I7 n7
  |brk=>obtain⟨σ7,H7,I7,q7⟩:=q7;exact⟨σ7,H7,I7.unpinned,D5 whole q7⟩
  |ret v=>obtain⟨x7,σ7,H7,I7,r7,q7⟩:=q7;exact⟨x7,σ7,H7,I7.unpinned,r7,Po.trans whole q7⟩
theorem GK(Pv:Nat->Rho->Gs->Prop)(hp:PassesOwn (model X.prog X.w) X.A X.env X.xe){m0:Nat}(h0:Pv m0 ρ G)(hs:∀m ρ' G',Pv m ρ' G'->WT X ρ' G' c fun p P8=>(p=true->WSs X ρ' P8 body { nx:=fun ρ2 G2=>∃m',m'<m/\Pv m' ρ2 G2,ct:=fun ρ2 G2=>∃m',m'<m/\Pv m' ρ2 G2,bk:=fun ρ' G'=>WSs X ρ' G' rest D,rt:=D.rt })/\(p=false->WSs X ρ' P8 rest D)) :
  WSs X ρ G (.While c body [] pos::rest) D:=BY fun AD s σ H I S=>by
 refine wpAny_While (codeAny_whileLoop (fun n s'=>∃σ' H' ρ' G',Inv X AD σ' H' s'/\Ext H G H' G'/\Stt X H' σ' ρ' G'/\Pv n ρ' G') ?_ m0 ⟨σ,H,ρ,G,I,Ext.refl,S,h0⟩);rintro n s1 ⟨σ1,H1,ρ1,G1,I1,e1,S1,p1⟩;refine wpAny_passesOwn hp (thn (hs n ρ1 G1 p1 AD s1 σ1 H1 I1 S1) fun p s2 ⟨H2,I2,G2,e2,o2,q2⟩=>?_);cases p with
 |true=>
  rw[if_pos rfl];refine wpAny_passesOwn hp (thn (q2.1 rfl AD s2 σ1 H2 I2 (S1.ext e2 o2)) fun f s3 q3=>?_);cases f with
  |next=>
   obtain⟨σ3,H3,I3,ρ3,G3,e3,S3,m',hm,p3⟩:=q3;exact⟨m',hm,σ3,H3,ρ3,G3,I3,e1.trans (e2.trans e3),S3,p3⟩
  |cont=>
   obtain⟨σ3,H3,I3,ρ3,G3,e3,S3,m',hm,p3⟩:=q3;exact⟨m',hm,σ3,H3,ρ3,G3,I3,e1.trans (e2.trans e3),S3,p3⟩
  |brk=>obtain⟨σ3,H3,I3,q3⟩:=q3;exact⟨σ3,H3,I3,D5 (e1.trans e2) q3⟩
  |ret v=>obtain⟨x3,σ3,H3,I3,r3,q3⟩:=q3;exact⟨x3,σ3,H3,I3,r3,Po.trans (e1.trans e2) q3⟩
 |false=>
  rw[if_neg Bool.false_ne_true];exact wpAny_execs_nil ⟨σ1,H2,I2,ρ1,G2,e1.trans e2,S1.ext e2 o2,q2.2 rfl⟩
theorem MW{H:Hp}{p:Addr}{vs:List V}(o:GOk X.K H G)(hp:H p=none)(r:RepL X.K (hid H G) ds vs):Ext H G (upd H p (.lst vs)) (put G p (.lst ds))/\GOk X.K (upd H p (.lst vs)) (put G p (.lst ds)):=by
 have hG:=o.free hp;have E:Ext H G (upd H p (.lst vs)) (put G p (.lst ds)):=⟨fun b u e _=>by rw[AR (Ab e hp)];exact e,fun b h=>by
  by_cases hb:b=p
  ·subst hb;exact .inr hp
  ·rw[Ak hb]at h;exact .inl h⟩
 refine⟨E,fun b u q=>?_⟩;by_cases hb:b=p
 ·subst hb;rw[AI]at q;cases q;exact⟨vs,Ax,r.same E.hid⟩
 ·rw[Ak hb]at q;exact(o b u q).ext E.hid (AR hb)
theorem NV{H:Hp}{p:Addr}{l:List Dat}{vs:List V}(o:GOk X.K H G)(hG:G p=some (.lst l))(r:RepL X.K (hid H G) ds vs):Ext H G (upd H p (.lst vs)) (put G p (.lst ds))/\GOk X.K (upd H p (.lst vs)) (put G p (.lst ds)):=by
 have E:Ext H G (upd H p (.lst vs)) (put G p (.lst ds)):=⟨fun b u e h=>by
  have:b≠p:=by rintro rfl;rw[hG]at h;cases h
  rw[AR this];exact e,fun b h=>by
  by_cases hb:b=p
  ·subst hb;left;rw[hG];exact nofun
  ·rw[Ak hb]at h;exact .inl h⟩
 refine⟨E,fun b u q=>?_⟩;by_cases hb:b=p
 ·subst hb;rw[AI]at q;cases q;exact⟨vs,Ax,r.same E.hid⟩
 ·rw[Ak hb]at q;exact(o b u q).ext E.hid (AR hb)
theorem HZ{H:Hp}{p:Addr}{l:List Dat}(o:GOk X.K H G)(hG:G p=some (.lst l)):Ext H G H (rel G p)/\GOk X.K H (rel G p)/\Rep X.K (hid H (rel G p)) (.lst l) (.ref p):=by
 have E:Ext H G H (rel G p):=⟨fun b u e _=>e,fun b h=>by
  by_cases hb:b=p
  ·subst hb;rw[B3]at h;exact absurd rfl h
  ·rw[Dp hb]at h;exact .inl h⟩
 refine⟨E,fun b u q=>?_,?_⟩
 ·by_cases hb:b=p
  ·subst hb;rw[B3]at q;cases q
  ·rw[Dp hb]at q;exact(o b u q).ext E.hid rfl
 ·obtain⟨vs,h1,r1⟩:=o p _ hG;rw[Rep];exact⟨p,vs,rfl,EY B3 h1,r1.same E.hid⟩
theorem Dy(i:Nat){x:Str}{pos':Pos}(hN:X.N.Nodup)(h:PXs X ρ G es ds)(q:∀p,G p=none->WSs X (ρ.set i (some (.fn p))) (put G p (.lst ds)) rest D)(hz:ds.length<=1000:=by first|decide|(simp;done))(hi:X.N[i]?=some x:=by rfl)(hx:Loc X.env.scope x:=by first|exact Or.inl rfl|exact Or.inr rfl)(hs:swapsWith (.List es p2) (some (.Name x pos')) pos.line X.env=pure false:=by rfl)(hf:X.fn x=true\/X.env.scope.names.lookup x=some .local:=by first|exact .inl rfl|exact .inr rfl|assumption):WSs X ρ G (.Assign [.Name x pos'] (.List es p2) pos::rest) D:=BY (XQ (WW (i:=i) hN hi hx (XD J8) hs hf) fun σ H S=>⟨ρ,G,_,h,S,fun vs H1 ⟨_,_,e1,o1,r1,q1,BZ⟩=>by
  subst q1;subst BZ;refine⟨by rw[r1.length];exact Nat.le_of_lt (Ia hz),fun p hp=>?_⟩;obtain⟨E,O⟩:=MW o1 hp r1;exact⟨_,_,e1.trans E,Stt.set (d:=.fn p) (v:=.ref p) (S.ext (e1.trans E) O) rfl,q p (o1.free hp)⟩⟩)
theorem Bs{p:Addr}{apos Au:Pos}(hx:PX X ρ G a (.fn p))(h:PX X ρ G e d)(hG:G p=some (.lst l))(hz:l.length<sizeLine)(q:WSs X ρ (put G p (.lst (l++[d]))) rest D)(Fi:attributeBase a "append" X.env (eval a X.env)=eval a X.env:=by rfl)(Bo:(apos.endLine==Au.line)=true:=by rfl)(he:starEach [e] X.env=(false,eval e X.env)::starEach [] X.env:=by rfl)(cU:((backTo Au (starEach [e] X.env)).all (fun x=>!x.1)&&(backToKw Au (keywordEach [] X.env)).all (fun x=>x.1.isSome)&&decide (([e]:List Expr).length+([]:List Keyword).length+(if ([]:List Keyword).isEmpty then 0 else 1)<30))=true:=by rfl)(hs:swapsWith (.Call (.Attribute a "append" apos) [e] [] Au) none pos.line X.env=pure false:=by rfl):WSs X ρ G (.Expr (.Call (.Attribute a "append" apos) [e] [] Au) pos::rest) D:=BY (XQ (YF (fJ PySem.F.plainAttrs_list PySem.F.slot_list_append PySem.F.type_list_append L8 Av (A7 Av CW he) Fi cU Bo he rfl) hs) fun σ H S=>⟨ρ,G,_,hx,S,fun x H1 ⟨_,_,e1,o1,r1,q1,BZ⟩=>by
  subst q1;subst BZ;cases (show x=V.ref p from r1);obtain⟨eQ,h1,_⟩:=o1 p _ hG;refine⟨.inl ⟨rfl,eQ,SqL.of h1⟩,ρ,_,_,h,S.ext e1 o1,fun y H2 ⟨_,_,e2,o2,r2,q2,G6⟩=>?_⟩;subst q2;subst G6;obtain⟨vs,h2,r3⟩:=o2 p _ hG;refine⟨p,vs,y,rfl,rfl,h2,by rw[r3.length];exact hz,?_⟩;obtain⟨E,O⟩:=NV o2 hG (r3.append (RepL.cons r2 RepL.nil));exact⟨ρ,_,(e1.trans e2).trans E,S.ext ((e1.trans e2).trans E) O,q⟩⟩)
theorem N0{p:Addr}(h:PX X ρ G e (.fn p))(hG:G p=some (.lst l))(q:D.rt (.lst l) (rel G p)):WSs X ρ G (.Return (some e) pos::rest) D:=Cf fun AD s σ H I S=>thn (h AD s σ H I S) fun v s1 z=>EP.mono z fun x H1 ⟨_,_,e1,o1,r1,q1,BZ⟩=>by
  subst q1;subst BZ;cases (show x=V.ref p from r1);obtain⟨E,O,R⟩:=HZ o1 hG;exact⟨_,_,e1.trans E,O,R,q⟩
end
theorem EF{α β:Type}{f:α->β->Sem (ForInStep β)}{g:β->α->β}:∀(l:List α)(c:β),(∀x∈l,∀c,f x c=pure (.yield (g c x)))->forIn l c f=(pure (l.foldl g c):Sem β)
 |[],_,_=>rfl
 |x::l,c,h=>by
  rw[List.forIn_cons,h x List.mem_cons_self,pure_bind];exact EF l _ fun y hy=>h y (List.mem_cons_of_mem _ hy)
def clF(env:Env):List (Str×Addr)->Str×NameKind->List (Str×Addr):=fun cs x=>if (x.2==NameKind.free)=true then(x.1,(env.cells.lookup x.1).getD 0)::cs else cs
def Wa(scope:Scope)(env:Env):List (Str×Addr):=scope.names.foldl (clF env) []
theorem Cc{scope:Scope}{env:Env}(h:∀x∈scope.names,x.2=.free->∃c,env.cells.lookup x.1=some c):closureFor scope env=pure (Wa scope env):=by
 simp only[closureFor];rw[EF (g:=clF env) scope.names [] (fun x hx c=>?_)]
 ·rfl
 ·obtain⟨n,kind⟩:=x;by_cases hk:kind=.free
  ·subst hk;obtain⟨a,ha⟩:=h _ hx rfl;simp only[cellOf,clF,ha,beq_self_eq_true,if_true,Option.getD_some,pure_bind]
  ·have:(kind==NameKind.free)=false:=by simpa using hk
   simp only[clF,this,Bool.false_eq_true,if_false]
theorem RU{env:Env}{x:Str}{c:Addr}:∀(l:List (Str×NameKind))(cs:List (Str×Addr)),(x,c)∈l.foldl (clF env) cs->(x,c)∈cs\/((x,NameKind.free)∈l/\c=(env.cells.lookup x).getD 0)
 |[],_,h=>.inl h
 |(n,k)::l,cs,h=>by
  rcases RU l _ h with h|⟨h1,h2⟩
  ·unfold clF at h;by_cases hk:(k==NameKind.free)=true
   ·rw[if_pos hk]at h;rcases List.mem_cons.mp h with e|h
    ·cases e;exact .inr ⟨by rw[eq_of_beq hk];exact List.mem_cons_self,rfl⟩
    ·exact .inl h
   ·rw[if_neg hk]at h;exact .inl h
  ·exact .inr ⟨List.mem_cons_of_mem _ h1,h2⟩
theorem SO{env:Env}{x:Str}:∀(l:List (Str×NameKind))(cs:List (Str×Addr)),((x,NameKind.free)∈l\/∃c,(x,c)∈cs)->∃c,(x,c)∈l.foldl (clF env) cs
 |[],_,h=>by
  rcases h with h|h
  ·cases h
  ·exact h
 |(n,k)::l,cs,h=>by
  refine SO l _ ?_;rcases h with h|⟨c,h⟩
  ·rcases List.mem_cons.mp h with e|h
   ·cases e;right;refine⟨(env.cells.lookup x).getD 0,?_⟩;unfold clF;rw[if_pos (by rfl)];exact List.mem_cons_self
   ·exact .inl h
  ·right;refine⟨c,?_⟩;unfold clF;split
   ·exact List.mem_cons_of_mem _ h
   ·exact h
theorem KJ{α:Type}{x:Str}{c:α}:∀{l:List (Str×α)},l.lookup x=some c->(x,c)∈l
 |[],h=>by simp at h
 |(n,k)::l,h=>by
  by_cases e:x=n
  ·subst e;simp only[List.lookup_cons,beq_self_eq_true]at h;cases h;exact List.mem_cons_self
  ·have:(x==n)=false:=by simpa using e
   simp only[List.lookup_cons,this]at h;exact List.mem_cons_of_mem _ (KJ h)
theorem KI{α:Type}{x:Str}{c:α}:∀{l:List (Str×α)},(x,c)∈l->∃c',l.lookup x=some c'
 |[],h=>by cases h
 |(n,k)::l,h=>by
  by_cases e:x=n
  ·subst e;exact⟨k,by simp[List.lookup_cons]⟩
  ·have:(x==n)=false:=by simpa using e
   rcases List.mem_cons.mp h with q|q
   ·cases q;exact absurd rfl e
   ·obtain⟨c',h'⟩:=KI q;exact⟨c',by simpa[List.lookup_cons,this]using h'⟩
def AW(X:Cx)(Nc:List Str)(scope:Scope)(C:Addr)(s:Shared)(H:Hp)(fp:List Addr):Cx where
 prog:=X.prog
 w:=X.w
 K:=X.K
 mg:=X.mg
 base:=X.base
 A:=X.A
 N:=Nc
 s₀:=s
 H₀:=H
 env:=compEnvC scope (Wa scope X.env) C X.env
 outer:=X.stack
 stack:=X.stack
 ex:=fp
 fn:=fun _=>false
 calm:=true
 pn:=[]
 xe:=fun _ _=>False
def Uz(psc:Scope)(PN:List Str)(scope:Scope)(Nc:List Str)(caps:List (Option Nat)):Bool:=decide (scope.kind=.function)&&scope.names.all (fun x=>decide (x.2≠.cell))&&scope.names.all (fun x=>decide (x.2=.local->scope.names.lookup x.1=some .local)) &&
 scope.names.all (fun x=>decide (x.2=.free->scope.names.lookup x.1=some .free/\(psc.names.lookup x.1=some .cell\/psc.names.lookup x.1=some .free)))&&decide Nc.Nodup&&decide (caps.length=Nc.length) &&
 (caps.zip Nc).all (fun q=>match q.1 with|none=>true|some j=>decide (PN[j]?=some q.2)&&decide ((q.2,NameKind.free)∈scope.names))
structure CompSc (X:Cx) (scope:Scope) (Nc:List Str) (caps:List (Option Nat)):Prop where
 kind:scope.kind=.function
 nocell:∀x∈scope.names,x.2≠.cell
 names:∀x∈scope.names,x.2=.local->scope.names.lookup x.1=some .local
 free:∀x∈scope.names,x.2=.free->X.env.kindOf x.1=some .cell\/X.env.kindOf x.1=some .free
 sole:∀x∈scope.names,x.2=.free->scope.names.lookup x.1=some .free
 nd:Nc.Nodup
 len:caps.length=Nc.length
 caps:∀(i j:Nat)(x:Str),caps[i]?=some (some j)->Nc[i]?=some x->X.N[j]?=some x/\(x,NameKind.free)∈scope.names
theorem Bp{X:Cx}{psc:Scope}{PN:List Str}{scope:Scope}{Nc:List Str}{caps:List (Option Nat)}(h:Uz psc PN scope Nc caps=true)(h1:X.env.scope=psc)(h2:X.N=PN):CompSc X scope Nc caps:=by
 unfold Uz at h;simp only[Bool.and_eq_true,decide_eq_true_eq,List.all_eq_true]at h;obtain⟨⟨⟨⟨⟨⟨a,b⟩,c⟩,d⟩,e⟩,f⟩,g⟩:=h;refine⟨a,b,c,fun x hx hf=>?_,fun x hx hf=>(d x hx hf).1,e,f,fun i j x hi hj=>?_⟩
 ·have:=(d x hx hf).2
  show X.env.scope.names.lookup x.1=_\/X.env.scope.names.lookup x.1=_;rw[h1];exact this
 ·have hm:(some j,x)∈caps.zip Nc:=List.mem_of_getElem? (i:=i) (by rw[List.getElem?_zip_eq_some];exact⟨hi,hj⟩)
  have:=g _ hm
  simp only[Bool.and_eq_true,decide_eq_true_eq]at this;rw[h2];exact this
def A6{α:Type}(caps:List (Option Nat))(l:List (Option α)):List (Option α):=caps.map fun o=>o.bind fun j=>(l[j]?).join
theorem Py{α:Type}{caps:List (Option Nat)}{l:List (Option α)}{i:Nat}{v:α}(h:(A6 caps l)[i]?=some (some v)):∃j,caps[i]?=some (some j)/\l[j]?=some (some v):=by
 unfold A6 at h;rw[List.getElem?_map]at h;cases q:caps[i]? with
 |none=>rw[q]at h;cases h
 |some o=>
  rw[q]at h;cases o with
  |none=>simp at h
  |some j=>
   refine⟨j,rfl,?_⟩;simp only[Option.map_some,Option.bind_some,Option.some.injEq]at h;cases z:l[j]? with
   |none=>rw[z]at h;simp at h
   |some u=>rw[z]at h;simp only[Option.join_some]at h;rw[h]
theorem W8{α:Type}{caps:List (Option Nat)}{l:List (Option α)}{i j:Nat}{v:α}(h:caps[i]?=some (some j))(h':l[j]?=some (some v)):(A6 caps l)[i]?=some (some v):=by unfold A6;rw[List.getElem?_map,h];simp[h']
section
variable {X:Cx}{AD:List (Addr×Obj)}{σ:St}{H:Hp}{s:Shared}{scope:Scope}{Nc:List Str}{caps:List (Option Nat)}{fp:List Addr}{ρ:Rho}{G:Gs}
theorem C7(I:Inv X AD σ H s)(Sc:CompSc X scope Nc caps){x:Str}{c:Addr}(h:(Wa scope X.env).lookup x=some c):X.env.cells.lookup x=some c/\(x,NameKind.free)∈scope.names:=by
 rcases RU _ _ (KJ h)with h|⟨h1,h2⟩
 ·cases h
 ·obtain⟨c',hc⟩:=I.ok.has x (Sc.free _ h1 rfl);rw[hc]at h2;exact⟨by rw[hc,h2];rfl,h1⟩
theorem SD(I:Inv X AD σ H s)(Sc:CompSc X scope Nc caps){x:Str}(h:(x,NameKind.free)∈scope.names):∃c,(Wa scope X.env).lookup x=some c/\X.env.cells.lookup x=some c:=by obtain⟨c,hm⟩:=SO (env:=X.env) scope.names [] (.inl h);obtain⟨c',hc⟩:=KI hm;exact⟨c',hc,(C7 I Sc hc).1⟩
theorem Hu{env:Env}{x:Str}:∀{names:List (Str×NameKind)}{k:NameKind},(names.map fun(n,k)=>if (k==NameKind.free&&env.scope.kind==.function&&env.kindOf n==some .cell)then(n,NameKind.cell)else(n,k)).lookup x=some k →
  ∃k',(x,k')∈names/\(k=k'\/(k'=.free/\k=.cell))
 |[],_,h=>by simp at h
 |(n,k0)::r,k,h=>by
  rw[List.map_cons]at h;by_cases e:x=n
  ·subst e;by_cases hc:(k0==NameKind.free&&env.scope.kind==.function&&env.kindOf x==some .cell)=true
   ·simp only[hc,if_true,List.lookup_cons,beq_self_eq_true]at h;cases h;simp only[Bool.and_eq_true]at hc;exact⟨k0,List.mem_cons_self,.inr ⟨eq_of_beq hc.1.1,rfl⟩⟩
   ·simp only[hc,Bool.false_eq_true,if_false,List.lookup_cons,beq_self_eq_true]at h;cases h;exact⟨k0,List.mem_cons_self,.inl rfl⟩
  ·have hx:(x==n)=false:=by simpa using e
   have:(List.map (fun(x:Str×NameKind)=>match x with|(n,k)=>if (k==NameKind.free&&env.scope.kind==.function&&env.kindOf n==some .cell)then(n,NameKind.cell)else(n,k)) r).lookup x=some k:=by
    by_cases hc:(k0==NameKind.free&&env.scope.kind==.function&&env.kindOf n==some .cell)=true
    ·simp only[hc,if_true,List.lookup_cons,hx]at h;exact h
    ·simp only[hc,Bool.false_eq_true,if_false,List.lookup_cons,hx]at h;exact h
   obtain⟨k',h1,h2⟩:=Hu this;exact⟨k',List.mem_cons_of_mem _ h1,h2⟩
theorem HU{env:Env}{x:Str}:∀{names:List (Str×NameKind)},names.lookup x=some .free->(names.map fun(n,k)=>if (k==NameKind.free&&env.scope.kind==.function&&env.kindOf n==some .cell)then(n,NameKind.cell)else(n,k)).lookup x=some .cell ∨
  (names.map fun(n,k)=>if (k==NameKind.free&&env.scope.kind==.function&&env.kindOf n==some .cell)then(n,NameKind.cell)else(n,k)).lookup x=some .free
 |[],h=>by simp at h
 |(n,k0)::r,h=>by
  rw[List.map_cons];by_cases e:x=n
  ·subst e;simp only[List.lookup_cons,beq_self_eq_true]at h;cases h;by_cases hc:(NameKind.free==NameKind.free&&env.scope.kind==.function&&env.kindOf x==some .cell)=true
   ·left;show List.lookup x ((if (NameKind.free==NameKind.free&&env.scope.kind==.function&&env.kindOf x==some .cell)=true then(x,NameKind.cell)else(x,NameKind.free))::_)=_;rw[if_pos hc,List.lookup_cons,beq_self_eq_true]
   ·right;show List.lookup x ((if (NameKind.free==NameKind.free&&env.scope.kind==.function&&env.kindOf x==some .cell)=true then(x,NameKind.cell)else(x,NameKind.free))::_)=_;rw[if_neg hc,List.lookup_cons,beq_self_eq_true]
  ·have hx:(x==n)=false:=by simpa using e
   simp only[List.lookup_cons,hx]at h;have ih:=HU (env:=env) h;by_cases hc:(k0==NameKind.free&&env.scope.kind==.function&&env.kindOf n==some .cell)=true
   ·simp only[hc,if_true,List.lookup_cons,hx];exact ih
   ·simp only[hc,Bool.false_eq_true,if_false,List.lookup_cons,hx];exact ih
theorem QI(I:Inv X AD σ H s)(Sc:CompSc X scope Nc caps)(BI:X.calm=true){h₁:Heap}{tk:Nat}(hf:∀b∈fp,IY X AD H b)(Ar:∀b∈fp,b<s.heap.objs.size)(Nk:∃m,h₁.Ns s.heap.objs.size m)(hk:∀b u,s.heap.get? b=some u->h₁.get? b=some u) :
  Inv (AW X Nc scope s.heap.objs.size s H fp) [] (A6 caps σ) H { s with heap:=h₁,toks:=tk }:=by
 have fZ:∀x,((AW X Nc scope s.heap.objs.size s H fp).env.kindOf x=some .cell\/(AW X Nc scope s.heap.objs.size s H fp).env.kindOf x=some .free)->(x,NameKind.free)∈scope.names:=fun x hx=>by
  have hh:∃k,(k=NameKind.cell\/k=NameKind.free)/\(AW X Nc scope s.heap.objs.size s H fp).env.kindOf x=some k:=by
   rcases hx with h|h
   ·exact⟨_,.inl rfl,h⟩
   ·exact⟨_,.inr rfl,h⟩
  obtain⟨k,hk,h⟩:=hh;obtain⟨k',h1,h2⟩:=Hu (env:=X.env) h;rcases h2 with e|⟨e,_⟩
  ·subst e;rcases hk with e|e
   ·subst e;exact absurd rfl (Sc.nocell _ h1)
   ·subst e;exact h1
  ·subst e;exact h1
 refine⟨?_,rfl,I.bare,Un.kept hk,?_,fun x c e=>?_,?_,fun x c e=>?_,fun p hp=>?_,I.hok.kept hk,?_⟩
 ·refine⟨I.ok.mod,Sc.kind,I.ok.glob,I.ok.blt,Nat.le_refl _,fun x y c h1 h2=>?_,fun x h=>?_,fun x c h=>?_,fun _=>I.ok.hd BI,I.ok.frames,.inl rfl,fun b hb=>?_,I.bs,Nat.le_trans I.ok.bsz I.sz,fun b o e hb=>?_,fun b hb Ja=>?_,I.stack,I.stkFree⟩
  ·exact I.ok.inj x y c (C7 I Sc h1).1 (C7 I Sc h2).1
  ·obtain⟨c,h1,_⟩:=SD I Sc (fZ x h);exact⟨c,h1⟩
  ·exact absurd h Bool.false_ne_true
  ·exact⟨Nat.ne_of_lt (Ar b hb),fun x c e=>(hf b hb).2.2.2.2.1 x c (C7 I Sc e).1⟩
  ·rcases(hf b hb).2.2.2.1 with z|z
   ·exact I.ok.noex b o e z
   ·exact absurd (Nat.lt_of_lt_of_le (Heap.lt_size e) (Nat.le_trans I.ok.bsz z)) (Nat.lt_irrefl _)
  ·rcases List.mem_cons.mp (I.stkSub b Ja)with z|z
   ·exact(hf b hb).2.1 z
   ·exact(hf b hb).2.2.1 z
 ·obtain⟨m,hm⟩:=Nk;refine⟨m,hm,fun i x v h1 h2 h3=>?_⟩;obtain⟨j,hj,hv⟩:=Py h2;obtain⟨hN,LH⟩:=Sc.caps i j x hj h1;obtain⟨c,pS,cq⟩:=SD I Sc LH;have kx:=Sc.free _ LH rfl;obtain⟨m0,_,hl⟩:=I.loc;obtain⟨u,ru,lk⟩:=hl j x v hN hv (by rcases kx with z|z;exact .inr (.inl z);exact .inr (.inr z));refine⟨u,ru,?_⟩;rcases lk with⟨z,_⟩|⟨_,c',e',cell⟩
  ·rcases kx with y|y<;>(have y':X.env.kindOf x=_:=y;rw[z]at y';cases y')
  ·rw[cq]at e';cases e';exact .inr ⟨HU (Sc.sole _ LH rfl),c,pS,cell.keeps hk⟩
 ·obtain⟨v,z⟩:=I.cell x c (C7 I Sc e).1;exact⟨v,z.keeps hk⟩
 ·exact I.hok.fresh (Nat.le_refl _)
 ·exact I.freeC x c (C7 I Sc e).1
 ·cases hp
 ·unfold A6;rw[List.length_map];exact Sc.len
end
theorem K6{X:Cx}{AD:List (Addr×Obj)}{σ σc:St}{H Hf:Hp}{s sf:Shared}{scope:Scope}{Nc:List Str}{fp:List Addr}{h':Heap}(I:Inv X AD σ H s)(hf:∀b∈fp,IY X AD H b)(Ic:Inv (AW X Nc scope s.heap.objs.size s H fp) [] σc Hf sf)(hs:Heap.SameBut s.heap.objs.size sf.heap h'):Inv X AD σ Hf { sf with heap:=h' }:=by
 have SE:∀b∈fp,(b∈X.ex\/X.s₀.heap.objs.size<=b)/\b≠X.env.locals/\(∀x c,X.env.cells.lookup x=some c->c≠b)/\∀p∈X.pn++AD,p.1≠b:=fun b hb=>
  ⟨(hf b hb).2.2.2.1,(hf b hb).2.1,(hf b hb).2.2.2.2.1,(hf b hb).2.2.2.2.2⟩
 have I1:Inv X AD σ Hf sf:=I.call' Ic.os Ic.base Ic.hok Ic.bare SE;have hC:Hf s.heap.objs.size=none:=Ic.free;refine I1.turned (t':=sf.toks) (it:=s.heap.objs.size) (fun b o hb e=>hs.extBut b o hb e) hC (Nat.ne_of_gt I.lt) (.inr I.sz) (fun x c e z=>?_) fun p hp z=>?_
 ·obtain⟨v,o,ho,_⟩:=I.cell x c e;rw[z]at ho;exact absurd (Heap.lt_size ho) (Nat.lt_irrefl _)
 ·have:=(I.pin p hp).1
  rw[z]at this;exact absurd (Heap.lt_size this) (Nat.lt_irrefl _)
def KG(elt:Expr)(env:Env)(Ae:Value):Sem Unit:=eval elt env >>= fun x=>call (.builtin "list.append") [Ae,x] >>= fun _=>pure ()
def O5(c elt:Expr)(env:Env)(Ae:Value):Sem Unit:=isTrue c env (eval c env) >>= fun ok=>if ok=true then KG elt env Ae else pure ()
def KN(elt AL Ac:Expr)(ifs:List Expr)(scope:Scope)(pos:Pos)(tail:Env->Value->Sem Unit):Prop:=∀(it Ae:Value)(env:Env),compTurn (.ListComp elt [⟨AL,Ac,ifs,0⟩] scope pos) 0 it Ae env=(standAt Ac.pos >>= fun _=>pyNext it >>= fun r=>match r with
   |none=>pure (.done .next)
   |some v=>letOwnedTupleGo AL it v >>= fun _=>assign AL env v >>= fun _=>tail env Ae >>= fun _=>
     again (.compLoop (.ListComp elt [⟨AL,Ac,ifs,0⟩] scope pos) 0 it Ae env))
theorem IE(elt AL Ac:Expr)(scope:Scope)(pos:Pos):KN elt AL Ac [] scope pos (KG elt):=fun it Ae env=>by rfl
theorem XN(elt AL Ac c:Expr)(scope:Scope)(pos:Pos):KN elt AL Ac [c] scope pos (O5 c elt):=fun it Ae env=>by
 have e:compTurn (.ListComp elt [⟨AL,Ac,[c],0⟩] scope pos) 0 it Ae env=(standAt Ac.pos >>= fun _=>pyNext it >>= fun r=>match r with
   |none=>pure (.done .next)
   |some v=>letOwnedTupleGo AL it v >>= fun _=>assign AL env v >>= fun _=>
     (forIn [c] true fun c r=>if r=true then(isTrue c env (eval c env) >>= fun ok=>pure (ForInStep.yield ok))else pure (ForInStep.yield r)) >>= fun ok=>
      if ok=true then(KG elt env Ae >>= fun _=>again (.compLoop (.ListComp elt [⟨AL,Ac,[c],0⟩] scope pos) 0 it Ae env))else again (.compLoop (.ListComp elt [⟨AL,Ac,[c],0⟩] scope pos) 0 it Ae env)):=by rfl
 rw[e];refine congrArg _ (funext fun _=>congrArg _ (funext fun r=>?_));cases r with
 |none=>rfl
 |some v=>
  refine congrArg (letOwnedTupleGo AL it v >>= ·) (funext fun _=>congrArg (assign AL env v >>= ·) (funext fun _=>?_));unfold O5;simp only[List.forIn_cons,List.forIn_nil,if_true,bind_assoc,pure_bind];refine congrArg (isTrue c env (eval c env) >>= ·) (funext fun ok=>?_);cases ok<;>simp
def Iq(Xc:Cx)(ρ:Rho)(G:Gs)(tl:Sem Unit)(Q:Gs->Prop):Prop:=∀(AD:List (Addr×Obj))(s:Shared)(σ:St)(H:Hp),Inv Xc AD σ H s->Stt Xc H σ ρ G->wpAny (model Xc.prog Xc.w) Xc.A tl (fun _ s'=>∃H' G',Inv Xc AD σ H' s'/\Ext H G H' G'/\GOk Xc.K H' G'/\Q G') (fun _ _=>False) s
section
variable {X:Cx}{AD:List (Addr×Obj)}{σ:St}{H:Hp}{s:Shared}{scope:Scope}{Nc:List Str}{caps:List (Option Nat)}{ρ:Rho}{G:Gs}{elt AL Ac c:Expr}{ifs:List Expr}{Au:Pos}{l:List Dat}{f:Dat->Rho->Option Rho}{tail:Env->Value->Sem Unit}
theorem IH(Pv:Nat->List Dat->Gs->Prop)(ht:KN elt AL Ac ifs scope Au tail)(Sc:CompSc X scope Nc caps)(BI:X.calm=true)(hg:∀C s' H' fp,PGD (AW X Nc scope C s' H' fp) AL f)(hle:∀d ρ',f d (A6 caps ρ)=some ρ'->ρ'.length=(A6 caps ρ).length/\∀(j:Nat) e,(A6 caps ρ)[j]?=some (some e)->ρ'[j]?=some (some e))(hz:l.length<=sizeLine)(CI:∀C s' H' fp D i d Ae G',l[i]?=some d->Pv i Ae G'->G' D=none->∃ρ',f d (A6 caps ρ)=some ρ' ∧
   Iq (AW X Nc scope C s' H' fp) ρ' (put G' D (.lst Ae)) (tail (AW X Nc scope C s' H' fp).env (.ref D)) fun P8=>∃Dk G4,Dk.length<=Ae.length+1/\G4 D=none/\P8=put G4 D (.lst Dk)/\Pv (i+1) Dk G4){it:Addr}{fp:List Addr}{tn:Nat->Heap->Prop}{J:It}(I:Inv X AD σ H s)(S:Stt X H σ ρ G)(T:Turn X.prog X.w X.K AL J fp it tn)(st:tn 0 s.heap)(hf:∀b∈fp,IY X AD H b)(wk:Wk X.K J H G l)(p0:Pv 0 [] G){E:Value->Shared->Prop}{RR:Value->Addr->Result->Shared->Prop}(oj:∀D C s3 sf σc Hf Gf Ae,(∀b o,s.heap.get? b=some o->s3.heap.get? b=some o)->C=s3.heap.objs.size->(∃H3,Inv X AD σ H3 s3/\(∀b∈fp,IY X AD H3 b)/\Inv (AW X Nc scope C s3 H3 fp) [] σc Hf sf)->Ext H G Hf (put Gf D (.lst Ae))->GOk X.K Hf (put Gf D (.lst Ae))->Gf D=none->Pv l.length Ae Gf->RR (.ref D) C (.ok .next) sf) :
  wpAny (model X.prog X.w) X.A (newList []) (fun Ae s₃=>wpAny (model X.prog X.w) X.A (newFunctionEnv scope X.env.globals (Wa scope X.env) [] X.env.qual none .none (some X.env)) (fun fI s₄=>
   codeAny (model X.prog X.w) X.A (.compStart (.ListComp elt [⟨AL,Ac,ifs,0⟩] scope Au) 0 (.ref it) Ae { fI with scope:=relabel scope X.env }) (RR Ae fI.locals) s₄) E s₃) E s:=by
 refine wpAny_newObj_type (wpAny_newFunctionEnv Sc.nocell (by intro y hy;simp at hy) (fun h₁ Nk₁ JM₁=>?_) Sc.kind);dsimp only at Nk₁ JM₁ ⊢;have I3:Inv X AD σ (upd H s.heap.objs.size (.lst [])) { s with heap:=s.heap.push { cls:=.type "list",data:=.seq ([]:List Value).toArray },toks:=s.toks }:=I.lnew (ys:=[]) (AO:=[]) .nil (Nat.zero_le _);have hD:H s.heap.objs.size=none:=I.hok.fresh (Nat.le_refl _);obtain⟨E3,O3⟩:=MW (X:=X) (ds:=[]) S.own hD RepL.nil;have mU:∀b∈fp,b<s.heap.objs.size:=fun b hb=>by obtain⟨o,e,_⟩:=T.obj 0 _ st b hb;exact Heap.lt_size e
 have ne2:∀b∈fp,b≠s.heap.objs.size:=fun b hb=>Nat.ne_of_lt (mU b hb);have f3:∀b∈fp,IY X AD (upd H s.heap.objs.size (.lst [])) b:=fun b hb=>⟨by rw[AR (ne2 b hb)];exact(hf b hb).1,(hf b hb).2⟩;generalize hs3:({ s with heap:=s.heap.push { cls:=.type "list",data:=.seq ([]:List Value).toArray },toks:=s.toks }:Shared)=s3 at I3;have e3:s3.heap=s.heap.push { cls:=.type "list",data:=.seq ([]:List Value).toArray }:=by rw[<-hs3]
 have k3:∀b o,s.heap.get? b=some o->s3.heap.get? b=some o:=fun b o e=>by rw[e3];exact Heap.get?_push_of_some _ e
 have hC:s3.heap.objs.size=s.heap.objs.size+1:=by rw[e3,Heap.size_push]
 have lr:∀b∈fp,b<s3.heap.objs.size:=fun b hb=>by rw[hC];exact Nat.lt_succ_of_lt (mU b hb)
 rw[<-e3]at Nk₁ JM₁;have hk:∀b u,s3.heap.get? b=some u->h₁.get? b=some u:=fun b u e=>JM₁.extBut b u (Nat.ne_of_lt (Heap.lt_size e)) (Heap.get?_push_of_some _ e);have Ic:=QI (tk:=s.toks+([]:List (Str×Value)).length) I3 Sc BI f3 lr ⟨_,Nk₁⟩ hk;have BS:tn 0 h₁:=T.keep _ _ _ st fun b hb o e=>hk b o (k3 b o e);have oy:Stt (AW X Nc scope s3.heap.objs.size s3 (upd H s.heap.objs.size (.lst [])) fp) (upd H s.heap.objs.size (.lst [])) (A6 caps σ) (A6 caps ρ) (put G s.heap.objs.size (.lst [])):=by
  refine⟨fun i d h=>?_,by unfold A6;rw[List.length_map,List.length_map],O3⟩;obtain⟨j,hj,hd⟩:=Py h;obtain⟨v,hv,rv⟩:=S.env j d hd;exact⟨v,W8 hj hv,rv.same E3.hid⟩
 have nj:∀H' G',Ext (upd H s.heap.objs.size (.lst [])) (put G s.heap.objs.size (.lst [])) H' G'->Ext H G H' G':=fun H' G' e=>E3.trans e;have loop:∀s4:Shared,s4={ s3 with heap:=h₁,toks:=s.toks+([]:List (Str×Value)).length } →
   codeAny (model X.prog X.w) X.A (.compLoop (.ListComp elt [⟨AL,Ac,ifs,0⟩] scope Au) 0 (.ref it) (.ref s.heap.objs.size) (AW X Nc scope s3.heap.objs.size s3 (upd H s.heap.objs.size (.lst [])) fp).env) (RR (.ref s.heap.objs.size) s3.heap.objs.size) s4:=by
  rintro s4 rfl;refine codeAny_loop rfl (fun n s'=>∃i Ae σ' H' G',i+n=l.length/\Ae.length<=i/\Inv (AW X Nc scope s3.heap.objs.size s3 (upd H s.heap.objs.size (.lst [])) fp) [] σ' H' s'/\tn i s'.heap/\(∀b∈fp,H' b=none) ∧
    Ext (upd H s.heap.objs.size (.lst [])) (put G s.heap.objs.size (.lst [])) H' (put G' s.heap.objs.size (.lst Ae))/\Stt (AW X Nc scope s3.heap.objs.size s3 (upd H s.heap.objs.size (.lst [])) fp) H' σ' (A6 caps ρ) (put G' s.heap.objs.size (.lst Ae))/\G' s.heap.objs.size=none/\Pv i Ae G') ?_ l.length
   ⟨0,[],_,_,G,Nat.zero_add _,Nat.le_refl _,Ic,BS,fun b hb=>(f3 b hb).1,Ext.refl,oy,S.own.free hD,p0⟩
  rintro n s5 ⟨i,Ae,σ5,H5,G5,hn,Ji,I5,bo,g8,e5,S5,mO,p5⟩;show wpAny (model X.prog X.w) X.A ((compTurn (.ListComp elt [⟨AL,Ac,ifs,0⟩] scope Au) 0 (.ref it) (.ref s.heap.objs.size) (AW X Nc scope s3.heap.objs.size s3 (upd H s.heap.objs.size (.lst [])) fp).env).onRaise (fun x=>do noteFrame x (AW X Nc scope s3.heap.objs.size s3 (upd H s.heap.objs.size (.lst [])) fp).env;theTreesLotGoes x)) _ _ s5;refine wpAny_noted ?_;rw[ht];refine wpAny_bind (wpAny_standAt (wpAny_bind ?_));have QZ:∀{H':Hp},(∀b∈fp,H' b=none)->∀b∈fp,IY (AW X Nc scope s3.heap.objs.size s3 (upd H s.heap.objs.size (.lst [])) fp) [] H' b:=fun hn b hb=>
   ⟨hn b hb,Nat.ne_of_lt (lr b hb),Ic.ok.exfs b hb,.inl hb,(Ic.ok.exf b hb).2,fun p hp=>by cases hp⟩
  obtain⟨b7,jL⟩:=wk H5 _ (nj _ _ e5);cases n with
  |zero=>
   have TV:i=l.length:=by lia
   subst TV;refine thn (T.done (AW X Nc scope s3.heap.objs.size s3 (upd H s.heap.objs.size (.lst [])) fp) rfl rfl rfl rfl _ [] s5 σ5 H5 _ I5 (QZ g8) bo jL) fun r s6 ⟨hr,I6⟩=>?_;subst hr;exact wpAny_pure (oj _ _ s3 s6 σ5 H5 G5 Ae k3 rfl ⟨_,I3,f3,I6⟩ (nj _ _ e5) S5.own mO p5)
  |succ n=>
   have Ar:i<l.length:=by lia
   obtain⟨go,b7⟩:=b7 i _ (List.getElem?_eq_getElem Ar);obtain⟨ρ6,mC,w6⟩:=CI s3.heap.objs.size s3 (upd H s.heap.objs.size (.lst [])) fp s.heap.objs.size i _ Ae G5 (List.getElem?_eq_getElem Ar) p5 mO;refine thn (T.item (AW X Nc scope s3.heap.objs.size s3 (upd H s.heap.objs.size (.lst [])) fp) rfl rfl rfl rfl i [] s5 σ5 H5 _ I5 (QZ g8) bo go) fun r s6 ⟨u,hr,h6⟩=>?_;subst hr;refine wpAny_bind (thn h6 fun _ s7 ⟨x,H7,I7,r7,y7,kJ,oQ⟩=>?_);obtain⟨e7,o7,fX⟩:=b7 x H7 y7;have kH:=fX S5.own;have qw:=I7.pinned (QZ oQ) (T.obj _ _ kJ);refine wpAny_bind (wpAny_mono (hg _ _ _ _ _ s7 σ5 H7 x u (A6 caps ρ) ρ6 _ _ qw r7 (S5.ext e7 (o7 S5.own)) kH mC) (fun _ s8 ⟨σ8,H8,I8,e8,S8⟩=>?_) fun _ _ z=>z.elim);refine wpAny_bind (wpAny_mono (w6 _ s8 σ8 H8 I8 S8) (fun _ s9 ⟨H9,G9,I9,e9,o9,Dk,G4,sQ,pP,eG,p9⟩=>?_) fun _ _ z=>z.elim);subst eG;refine wpAny_pure ⟨rfl,n,Nat.lt_succ_self _,i+1,Dk,σ8,H9,G4,by lia,by lia,I9.unpinned (AD:=[]),T.keep _ _ _ kJ fun b hb o e=>(I9.pin (b,o) (List.mem_append_right _ (List.mem_append_right _ (Ef hb e)))).1,fun b hb=>?_,e5.trans (e7.trans (e8.trans e9)),?_,pP,p9⟩
   ·obtain⟨o,e,d⟩:=T.obj _ _ kJ b hb;exact(I9.pin (b,o) (List.mem_append_right _ (List.mem_append_right _ (Ef hb e)))).2.1
   ·obtain⟨z1,z2⟩:=hle _ _ mC;have S9:=S8.ext e9 o9;exact⟨fun j e h=>S9.env j e (z2 j e h),by rw[<-S9.len,z1],o9⟩
 subst hs3;exact codeAny_compStart_list (loop _ rfl) (T.self _ 0 _ _ _ BS (loop _ rfl))
theorem Ee{Xc:Cx}{ρ:Rho}{G:Gs}{D:Addr}{Ae:List Dat}{Q:Gs->Prop}(hx:Xc.xe=fun _ _=>False)(hG:G D=some (.lst Ae))(hz:Ae.length<sizeLine)(h:WE Xc ρ G elt fun v G'=>G' D=some (.lst Ae)/\Q (put G' D (.lst (Ae++[v])))):Iq Xc ρ G (KG elt Xc.env (.ref D)) Q:=by
 intro AD s σ H I S;unfold KG;have h':=h AD s σ H I S;rw[hx]at h';refine wpAny_bind (thn h' fun u s1 ⟨x,H1,I1,r1,d,G1,e1,o1,q1,Ei,z1⟩=>?_);obtain⟨vs,h1,r2⟩:=o1 D _ Ei
 have:=L8 (X:=Xc) AD s1 σ H1 (.ref D) [x] (.ref D) [u] (fun _ H'=>∃G',Ext H G H' G'/\GOk Xc.K H' G'/\Q G') I1 rfl (.cons r1 .nil) ⟨D,vs,x,rfl,rfl,h1,by rw[r2.length];exact hz,by
  obtain⟨E,O⟩:=NV o1 Ei (r2.append (RepL.cons q1 RepL.nil));exact⟨_,e1.trans E,O,z1⟩⟩
 rw[hx]at this;refine wpAny_bind (thn this fun _ s2 ⟨_,H2,I2,_,G2,e2,o2,z2⟩=>wpAny_pure ⟨H2,G2,I2,e2,o2,z2⟩)
theorem QQ{Xc:Cx}{ρ:Rho}{G:Gs}{D:Addr}{Q:Gs->Prop}(hx:Xc.xe=fun _ _=>False)(h:WT Xc ρ G c fun p G'=>(p=true->Iq Xc ρ G' (KG elt Xc.env (.ref D)) Q)/\(p=false->Q G')):Iq Xc ρ G (O5 c elt Xc.env (.ref D)) Q:=by
 intro AD s σ H I S;unfold O5;have h':=h AD s σ H I S;rw[hx]at h';refine wpAny_bind (thn h' fun p s1 ⟨H1,I1,G1,e1,o1,q1⟩=>?_);cases p with
 |true=>
  rw[if_pos rfl];exact thn (q1.1 rfl AD s1 σ H1 I1 (S.ext e1 o1)) fun _ s2 ⟨H2,G2,I2,e2,o2,z2⟩=>⟨H2,G2,I2,e1.trans e2,o2,z2⟩
 |false=>
  rw[if_neg Bool.false_ne_true];exact wpAny_pure ⟨H1,G1,I1,e1,o1,q1.2 rfl⟩
theorem NL(Pv:Nat->List Dat->Gs->Prop){Q:Dat->Gs->Prop}(ht:KN elt AL Ac ifs scope Au tail)(Sc:CompSc X scope Nc caps)(BI:X.calm=true)(hi:WI X ρ G AL Ac fun l' G'=>l'=l/\Pv 0 [] G')(hg:∀C s' H' fp,PGD (AW X Nc scope C s' H' fp) AL f)(hle:∀d ρ',f d (A6 caps ρ)=some ρ'->ρ'.length=(A6 caps ρ).length/\∀(j:Nat) e,(A6 caps ρ)[j]?=some (some e)->ρ'[j]?=some (some e))(hz:l.length<=sizeLine)(CI:∀C s' H' fp D i d Ae G',l[i]?=some d->Pv i Ae G'->G' D=none->∃ρ',f d (A6 caps ρ)=some ρ' ∧
   Iq (AW X Nc scope C s' H' fp) ρ' (put G' D (.lst Ae)) (tail (AW X Nc scope C s' H' fp).env (.ref D)) fun P8=>∃Dk G4,Dk.length<=Ae.length+1/\G4 D=none/\P8=put G4 D (.lst Dk)/\Pv (i+1) Dk G4)(hd:∀Ae G',Pv l.length Ae G'->Q (.lst Ae) G')(OZ:∀x,foldedSetIterable Ac X.env x=pure x:=by intro _;rfl):WE X ρ G (.ListComp elt [⟨AL,Ac,ifs,0⟩] scope Au) Q:=by
 intro AD s σ H I S;rw[eval_ListComp];refine wpAny_comprehension_free (use:=none) rfl OZ (Cc fun x hx hf=>I.ok.has x.1 (Sc.free x hx hf)) Sc.kind Sc.names ?_;refine thn (hi AD s σ H I S) fun v s1 h1=>thn h1 fun dQ s2 h2=>?_;obtain⟨it,fp,tn,J,H2,e,I2,T,Ci,f2,l',G2,e2,o2,wk,q,p0⟩:=h2;subst e;subst q;refine IH (RR:=fun Ae C=>compPost (model X.prog X.w) X.A X.xe none (EP X AD σ (Po X H G Q)) Ae C) Pv ht Sc BI hg hle hz CI I2 (S.ext e2 o2) T Ci f2 wk p0 ?_;rintro D C s3 sf σc Hf Gf Ae k3 rfl ⟨H3,I3,f3,Ic⟩ ef of gG pf;obtain⟨m,hm,_⟩:=Ic.loc;refine⟨m,hm,fun h' hs=>⟨.ref D,Hf,K6 I3 f3 Ic hs,rfl,.lst Ae,Gf,?_,?_,?_,hd Ae Gf pf⟩⟩;all_goals
  obtain⟨E,O,R⟩:=HZ (X:=X) of AI;rw[BG gG]at E O R;first
  |exact e2.trans (ef.trans E)
  |exact O
  |exact R
end
abbrev SpD:=List Dat->Gs->(Dat->Gs->Prop)->Prop
def Al(K:PySem.W.Frag)(S:SpD):Sp:=fun vs H Q _=>∃ds G R,GOk K H G/\RepL K (hid H G) ds vs/\S ds G R/\∀v H' d G',Ext H G H' G'->GOk K H' G'->Rep K (hid H' G') d v->R d G'->Q v H'
def EO(N:List Str)(ds:List Dat):Rho:=ds.map some++List.replicate (N.length-ds.length) none
theorem Ib{X:Cx}{H:Hp}{N:List Str}{ds:List Dat}{vs:List V}{G:Gs}(o:GOk X.K H G)(r:RepL X.K (hid H G) ds vs):Stt X H (start N vs) (EO N ds) G:=by
 refine⟨fun i d h=>?_,by unfold L2.start EO;rw[List.length_append,List.length_append,List.length_map,List.length_map,r.length,List.length_replicate,List.length_replicate],o⟩;unfold EO at h;by_cases hi:i<ds.length
 ·rw[List.getElem?_append_left (by rw[List.length_map];exact hi),List.getElem?_map]at h;cases q:ds[i]? with
  |none=>rw[q]at h;cases h
  |some d'=>
   rw[q]at h;cases h;obtain⟨v,hv,rv⟩:=r.get q;refine⟨v,?_,rv⟩;unfold L2.start;rw[List.getElem?_append_left (by rw[List.length_map,r.length];exact hi),List.getElem?_map,hv];rfl
 ·rw[List.getElem?_append_right (by rw[List.length_map];lia),List.length_map]at h;exfalso
  have:=List.mem_of_getElem? h
  rw[List.mem_replicate]at this;cases this.2
section
variable {P:Program}{w:World}{K:PySem.W.Frag}{mg:Str->Option Value}{base:Heap}
theorem lL{x qual:Str}{st:Stmt}{f:Addr}{fd:FuncData}{N ps:List Str}{k:Nat}{S:SpD}(F:Fun K x qual st f fd)(Sc:FnScope N ps (AF st))(AY:∀ds G R,S ds G R->ds.length=ps.length)(hb:∀(Aw:Value)(A:Around)(outer:List Env)(s:Shared)(H:Hp)(E:XK)(ds:List Dat)(G:Gs)(R:Dat->Gs->Prop),Room k (A.deeper (envOfC qual (AF st) s.heap.objs.size f Aw))->S ds G R →
   WSs (Es CX0 P w K mg base N qual (AF st) f Aw A outer s H E).nox (EO N ds) G (BM st) { nx:=fun _ G'=>R .non G',rt:=R }):FnOk P w K mg base CX0 (k+1) f fd ps (Al K S):=by
 refine F.ok Sc (fun vs H Q E h=>?_) (fun Aw A outer s H vs Q E hr h=>?_)
 ·obtain⟨ds,G,R,_,r,hS,_⟩:=h;rw[r.length];exact AY ds G R hS
 ·obtain⟨ds,G,R,o,r,hS,k⟩:=h;refine⟨f7 _ (BM st),bN,EO N ds,G,_,hb Aw A outer s H E ds G R hr hS,Ib o r,?_,?_,?_,?_⟩
  ·rintro σ' H' ⟨ρ',G',e',S',q⟩;exact k .non H' .non G' e' S'.own rfl q
  ·rintro v H' ⟨d,G',e',o',r',q⟩;exact k v H' d G' e' o' r' q
  ·rintro σ' H' ⟨_,_,_,_,q⟩;exact q
  ·rintro σ' H' ⟨_,_,_,_,q⟩;exact q
end
section
variable {X:Cx}{ρ:Rho}{G:Gs}{e:Expr}{es:List Expr}{ds:List Dat}{pos p:Pos}{S:SpD}{k:Nat}{f:Addr}{fd:FuncData}{ps:List Str}{x:Str}{Q:Dat->Gs->Prop}
theorem ZL(F:FnOk X.prog X.w X.K X.mg X.base CX0 k f fd ps (Al X.K S))(hr:Room k X.A)(hm:X.mg x=some (.ref f))(hk:PySem.W.keepIn X.K (.ref f)=true)(hb:Binds X.K fd ps [])(ha:PXs X ρ G (e::es) ds)(hS:S ds G Q)(hg:Gl X x:=by rfl)(HJ:(x==("__debug__":Str))=false:=by decide)(he:starEach (e::es) X.env=(false,eval e X.env)::starEach es X.env:=by rfl)(hpl:(backTo pos (starEach es X.env)).any (·.1)=false:=by rfl):WE X ρ G (.Call (.Name x p) (e::es) [] pos) Q:=Bb (SF F hr hg hm hk hb .nil Uy J8 HJ he hpl) fun σ H St=>⟨ρ,G,_,ha,St,fun vs H1 ⟨_,_,e1,o1,r1,q1,BZ⟩=>by
  subst q1;subst BZ;refine⟨_,_,Q,o1,by rw[List.append_nil];exact r1,hS,fun v H' d G' e' o' r' q'=>⟨d,G',e1.trans e',o',r',q'⟩⟩⟩
end
structure Df (P:Program) (w:World) (K:PySem.W.Frag) (mg:Str->Option Value) (base:Heap) (x:Str) (ps:List Str) (k:Nat) (S:SpD):Prop where
 ex:∃f fd,FnOk P w K mg base CX0 k f fd ps (Al K S)/\mg x=some (.ref f)/\PySem.W.keepIn K (.ref f)=true/\Binds K fd ps []
section
variable {X:Cx}{ρ:Rho}{G:Gs}{e:Expr}{es:List Expr}{ds:List Dat}{pos p:Pos}{S:SpD}{k:Nat}{ps:List Str}{x:Str}{Q:Dat->Gs->Prop}
theorem Ai(F:Df X.prog X.w X.K X.mg X.base x ps k S)(hr:Room k X.A)(ha:PXs X ρ G (e::es) ds)(hS:S ds G Q)(hg:Gl X x:=by rfl)(HJ:(x==("__debug__":Str))=false:=by decide)(he:starEach (e::es) X.env=(false,eval e X.env)::starEach es X.env:=by rfl)(hpl:(backTo pos (starEach es X.env)).any (·.1)=false:=by rfl):WE X ρ G (.Call (.Name x p) (e::es) [] pos) Q:=by obtain⟨f,fd,F,hm,hk,hb⟩:=F.ex;exact ZL F hr hm hk hb ha hS hg HJ he hpl
end
mutual
def Dat.same:Dat->Dat->Bool
 |.non,.non=>true
 |.bl a,.bl b=>a==b
 |.int a,.int b=>a==b
 |.str a,.str b=>a==b
 |.fn a,.fn b=>a==b
 |.scr a,.scr b=>a==b
 |.tup l,.tup m=>Dat.sameL l m
 |.lst l,.lst m=>Dat.sameL l m
 |_,_=>false
def Dat.sameL:List Dat->List Dat->Bool
 |[],[]=>true
 |x::xs,y::ys=>Dat.same x y&&Dat.sameL xs ys
 |_,_=>false
end
mutual
theorem Dat.same_eq:∀{a b:Dat},Dat.same a b=true->a=b
 |.non,b,h=>by cases b<;>simp_all[Dat.same]
 |.bl _,b,h=>by cases b<;>simp_all[Dat.same]
 |.int _,b,h=>by cases b<;>simp_all[Dat.same]
 |.str _,b,h=>by cases b<;>simp_all[Dat.same]
 |.fn _,b,h=>by cases b<;>simp_all[Dat.same]
 |.scr _,b,h=>by cases b<;>simp_all[Dat.same]
 |.tup l,b,h=>by
  cases b<;>simp only[Dat.same,Bool.false_eq_true]at h;rw[Dat.sameL_eq h]
 |.lst l,b,h=>by
  cases b<;>simp only[Dat.same,Bool.false_eq_true]at h;rw[Dat.sameL_eq h]
theorem Dat.sameL_eq:∀{a b:List Dat},Dat.sameL a b=true->a=b
 |[],b,h=>by cases b<;>simp_all[Dat.sameL]
 |x::xs,b,h=>by
  cases b with
  |nil=>simp[Dat.sameL]at h
  |cons y ys=>
   simp only[Dat.sameL,Bool.and_eq_true]at h;rw[Dat.same_eq h.1,Dat.sameL_eq h.2]
end
mutual
theorem Dat.same_refl:∀(a:Dat),Dat.same a a=true
 |.non=>by simp[Dat.same]
 |.bl _=>by simp[Dat.same]
 |.int _=>by simp[Dat.same]
 |.str _=>by simp[Dat.same]
 |.fn _=>by simp[Dat.same]
 |.scr _=>by simp[Dat.same]
 |.tup l=>by simp only[Dat.same];exact Dat.sameL_refl l
 |.lst l=>by simp only[Dat.same];exact Dat.sameL_refl l
theorem Dat.sameL_refl:∀(a:List Dat),Dat.sameL a a=true
 |[]=>by simp[Dat.sameL]
 |x::xs=>by simp only[Dat.sameL,Bool.and_eq_true];exact⟨Dat.same_refl x,Dat.sameL_refl xs⟩
end
instance:DecidableEq Dat:=fun a b=>decidable_of_iff (Dat.same a b=true) ⟨Dat.same_eq,fun h=>h▸Dat.same_refl a⟩
theorem DF:∀{n:Nat}{d:Dat},B4 n d=true->AH n d=true:=by
 intro n
 induction n with
 |zero=>intro d h;cases d<;>simp_all[B4,AH,Ag]
 |succ n ih=>
  intro d h;cases d<;>simp only[B4,Bool.false_eq_true]at h<;>first|rfl|skip
  simp only[AH,List.all_eq_true]at h ⊢;exact fun x hx=>ih (h x hx)
theorem ZH:∀{n:Nat}{d e:Dat},B4 n d=true->B4 n e=true->eqD d e=decide (d=e):=by
 intro n
 induction n with
 |zero=>
  intro d e h h';cases d<;>simp only[B4,Bool.false_eq_true]at h<;>cases e<;>simp only[B4,Bool.false_eq_true]at h';rename_i a b;by_cases z:a=b<;>simp[eqD,z]
 |succ n ih=>
  have hl:∀(l m:List Dat),l.all (B4 n)=true->m.all (B4 n)=true->eqL l m=decide (l=m):=by
   intro l
   induction l with
   |nil=>intro m _ _;cases m<;>simp[eqL]
   |cons x l fg=>
    intro m h h';cases m with
    |nil=>simp[eqL]
    |cons y m=>
     simp only[List.all_cons,Bool.and_eq_true]at h h';rw[eqL,ih h.1 h'.1,fg m h.2 h'.2];by_cases z1:x=y<;>by_cases z2:l=m<;>simp[z1,z2]
  intro d e h h';cases d<;>simp only[B4,Bool.false_eq_true]at h<;>cases e<;>simp only[B4,Bool.false_eq_true]at h'
  ·rename_i a b;by_cases z:a=b<;>simp[eqD,z]
  ·simp[eqD]
  ·simp[eqD]
  ·rename_i l m;rw[eqD,hl l m h h'];by_cases z:l=m<;>simp[z]
mutual
def HS:Dat->Nat
 |.tup l=>Fu l+1
 |_=>1
def Fu:List Dat->Nat
 |[]=>0
 |d::r=>HS d+Fu r
end
theorem HY:∀(a b:List Dat),DL (a++b)=DL a++DL b
 |[],_=>by simp[DL]
 |d::a,b=>by simp only[List.cons_append,DL];rw[HY a b]
theorem HH:∀(a b:List Dat),Fu (a++b)=Fu a+Fu b
 |[],_=>by simp[Fu]
 |d::a,b=>by simp only[List.cons_append,Fu];rw[HH a b];lia
section
variable {prog:Program}{w:World}
theorem Xx:∀(n:Nat){A:Around}{E:Value->Shared->Prop}{s:Shared}{d:Dat}{u:Value}{Q:Int->Shared->Prop},B4 n d=true->AtH s.heap d u->A.units+n<cLine->Q (Dv d) { s with toks:=s.toks+HS d } →
  wpAny (model prog w) A (pyHash u) Q E s:=by
 have Pr:∀{A:Around}{E:Value->Shared->Prop}{s:Shared}{i:Int}{u:Value}{Q:Int->Shared->Prop},AtH s.heap (.int i) u->Q (Dv (.int i)) { s with toks:=s.toks+HS (.int i) }->wpAny (model prog w) A (pyHash u) Q E s:=by
  intro A E s i u Q r h;rw[AtH]at r;obtain⟨t,rfl⟩:=r;rw[Dv,HS]at h
  ·exact wpAny_pyHash_int h
  ·intro l;exact nofun
 intro n
 induction n with
 |zero=>
  intro A E s d u Q hk r hu h;cases d<;>simp only[B4,Bool.false_eq_true]at hk;exact Pr r h
 |succ n ih=>
  intro A E s d u Q hk r hu h;cases d<;>simp only[B4,Bool.false_eq_true]at hk
  ·exact Pr r h
  rename_i l;rw[AtH]at r;obtain⟨a,AO,rfl,ht,hi⟩:=r;have hT:s.TypeIs (.ref a) "tuple":=let ⟨o,ho,hc,_⟩:=ht;⟨o,ho,hc⟩;obtain⟨o,ho,_,m,hd⟩:=ht;unfold pyHash;first|unfold pyHashByItsType|skip
  first|refine wpAny_bind (wpAny_cRoomFor_or (.inr (by lia)) ?_)|skip
  refine wpAny_bind (wpAny_specialOf hT F.slot_tuple_hash.lookup ?_);show wpAny _ _ (if (some (Value.builtin "tuple.__hash__")==some Value.none)=true then _ else _) Q E s;rw[if_neg (by rw[beq_builtin_none];exact Bool.false_ne_true)];refine wpAny_bind (wpAny_specialOf hT F.slot_tuple_hash.lookup ?_);show wpAny _ _ (callSpecialIfBoundUnlessNone? (.ref a) "__hash__" _ >>= _) Q E s;refine wpAny_bind (wpAny_callSpecialIfBoundUnlessNone?_slot hT F.slot_tuple_hash (wpAny_call_entry F.slot_tuple_hash hT F.entry_tuple_hash ?_ (F.args_tuple_hash_1 _)));show wpAny _ _ (Builtin.Tuple.tupleItemsOf (.ref a) >>= _) _ _ s;refine wpAny_bind (wpAny_tupleItemsOf ho hd ?_);refine wpAny_bind ?_;rw[<-Array.forIn_toList];refine wpAny_forIn_list _
   (fun rest (b:Array Int) s'=>∃done left,l=done++left/\AtL s.heap left rest/\b.toList=DL done/\s'={ s with toks:=s.toks+Fu done })
   _ ?_ ?_ _ _ ⟨[],l,rfl,hi,rfl,rfl⟩
  ·rintro x rest b s' ⟨done,left,rfl,hl,hb,rfl⟩;cases left with
   |nil=>rw[AtL]at hl;cases hl
   |cons k GH=>
    rw[AtL]at hl;obtain⟨u,r,e,h1,Yg⟩:=hl;cases e;have dH:B4 n k=true:=by
     have:=List.all_eq_true.mp hk k (by simp)
     exact this
    refine wpAny_bind (ih dH h1 (by show A.units+1+n<cLine;lia) ?_);have fin:∃Vs aj,done++k::GH=Vs++aj/\AtL s.heap aj rest/\(b.push (Dv k)).toList=DL Vs/\({ s with toks:=s.toks+Fu done+HS k }:Shared)={ s with toks:=s.toks+Fu Vs }:=
     ⟨done++[k],GH,by simp,Yg,by simp[hb,HY,DL],by rw[HH];simp[Fu,Nat.add_assoc]⟩
    first
     |exact wpAny_pure fin
     |exact wpAny_bind (wpAny_pure (wpAny_pure fin))
  ·rintro b s' ⟨done,left,rfl,hl,hb,rfl⟩;cases left with
   |cons k GH=>rw[AtL]at hl;obtain⟨_,_,e,_⟩:=hl;cases e
   |nil=>
    rw[List.append_nil,Dv,HS]at h;show wpAny _ _ (retInt (Builtin.Tuple.tupleHashOf b.toList)) _ _ _;rw[hb];refine wpAny_ret_mkInt ?_;show wpAny _ _ (if (decide (-(2:Int) ^ 63<=Builtin.Tuple.tupleHashOf (DL done))&&decide (Builtin.Tuple.tupleHashOf (DL done)<2 ^ 63))=true then _ else _) Q E _;unfold reduceHash at h;by_cases hr:(decide (-(2:Int) ^ 63<=Builtin.Tuple.tupleHashOf (DL done))&&decide (Builtin.Tuple.tupleHashOf (DL done)<2 ^ 63))=true
    ·rw[if_pos hr];rw[if_pos hr]at h;exact wpAny_pure (by simpa[Nat.add_assoc]using h)
    ·rw[if_neg hr];rw[if_neg hr]at h;exact wpAny_bind (wpAny_rule (wpAny_pure (by simpa[Nat.add_assoc]using h)))
theorem Vd:∀(n m:Nat){A:Around}{E:Value->Shared->Prop}{s:Shared}{d:Dat}{u:Value}{Q:Bool->Shared->Prop},n<=m->B4 n d=true->AtH s.heap d u->Q true s->wpAny (model prog w) A (eqIsQuiet m u) Q E s:=by
 have Pr:∀{m:Nat}{A:Around}{E:Value->Shared->Prop}{s:Shared}{i:Int}{u:Value}{Q:Bool->Shared->Prop},AtH s.heap (.int i) u->Q true s->wpAny (model prog w) A (eqIsQuiet m u) Q E s:=by
  intro m A E s i u Q r h;rw[AtH]at r;obtain⟨t,rfl⟩:=r;rw[eqIsQuiet_byValue m rfl];exact wpAny_pure h
 intro n
 induction n with
 |zero=>
  intro m A E s d u Q _ hk r h;cases d<;>simp only[B4,Bool.false_eq_true]at hk;exact Pr r h
 |succ n ih=>
  intro m A E s d u Q hm hk r h;cases d<;>simp only[B4,Bool.false_eq_true]at hk
  ·exact Pr r h
  rename_i l;obtain⟨m',rfl⟩:∃m',m=m'+1:=⟨m-1,by lia⟩;rw[AtH]at r;obtain⟨a,AO,rfl,ht,hi⟩:=r;have hT:s.TypeIs (.ref a) "tuple":=let ⟨o,ho,hc,_⟩:=ht;⟨o,ho,hc⟩;obtain⟨o,ho,_,q,hd⟩:=ht;unfold eqIsQuiet;refine wpAny_bind (wpAny_specialOf hT F.slot_tuple_eq.lookup ?_);show wpAny _ _ (isInstance (.ref a) (.type "tuple") >>= _) _ _ s;refine wpAny_bind (wpAny_isInstance hT isSubtype_tuple_tuple ?_);simp only[Bool.not_true,Bool.false_eq_true,if_false];refine wpAny_bind (wpAny_seqItems ho hd ?_);refine wpAny_bind ?_;show wpAny _ _ (forIn AO.toArray _ _) _ _ s;rw[<-Array.forIn_toList];refine wpAny_forIn_list _ (fun rest r s'=>r.1=none/\s'=s/\∃left,AtL s.heap left rest/\left.all (B4 n)=true) _ ?_ ?_ _ _ ⟨rfl,rfl,l,hi,hk⟩
  ·rintro v rest r s' ⟨hr,rfl,left,hl,Dj⟩;cases left with
   |nil=>rw[AtL]at hl;cases hl
   |cons k ks=>
    rw[AtL]at hl;obtain⟨u,r',e,h1,Yg⟩:=hl;cases e;simp only[List.all_cons,Bool.and_eq_true]at Dj;refine wpAny_bind (ih m' (by lia) Dj.1 h1 ?_);simp only[Bool.not_true,Bool.false_eq_true,if_false];exact wpAny_pure ⟨rfl,rfl,ks,Yg,Dj.2⟩
  ·rintro⟨r1,r2⟩ s' ⟨hr,rfl,_⟩;simp only at hr;subst hr;exact wpAny_pure h
def RQ(h:Heap)(k:Dat)(a:Addr):Prop:=B4 6 k=true/\AtH h k (.ref a)
mutual
theorem AtH.keeps{h h':Heap}{d:Addr}{o:Obj}{es ep}(ho:h.get? d=some o)(hd:o.data=.dict es ep)(hs:Heap.SameBut d h h'):∀{k:Dat}{u:Value},AtH h k u->AtH h' k u
 |.non,_,r=>by rw[AtH]at r ⊢;exact r
 |.bl _,_,r=>by rw[AtH]at r ⊢;exact r
 |.int _,_,r=>by rw[AtH]at r ⊢;exact r
 |.str _,_,r=>by rw[AtH]at r ⊢;exact r
 |.fn _,_,r=>by rw[AtH]at r ⊢;exact r
 |.scr _,_,r=>by rw[AtH]at r;exact r.elim
 |.tup l,_,r=>by
  rw[AtH]at r ⊢;obtain⟨a,AO,e,⟨o',h1,h2,n,h3⟩,h4⟩:=r;have Bq:a≠d:=by
   rintro rfl;rw[ho]at h1;cases h1;rw[hd]at h3;cases h3
  exact⟨a,AO,e,⟨o',(hs.2 a Bq).trans h1,h2,n,h3⟩,AtL.keeps ho hd hs h4⟩
 |.lst l,_,r=>by
  rw[AtH]at r ⊢;obtain⟨a,AO,e,⟨o',h1,h2,n,h3⟩,h4⟩:=r;have Bq:a≠d:=by
   rintro rfl;rw[ho]at h1;cases h1;rw[hd]at h3;cases h3
  exact⟨a,AO,e,⟨o',(hs.2 a Bq).trans h1,h2,n,h3⟩,AtL.keeps ho hd hs h4⟩
theorem AtL.keeps{h h':Heap}{d:Addr}{o:Obj}{es ep}(ho:h.get? d=some o)(hd:o.data=.dict es ep)(hs:Heap.SameBut d h h'):∀{k:List Dat}{u:List Value},AtL h k u->AtL h' k u
 |[],_,r=>by rw[AtL]at r ⊢;exact r
 |_::_,_,r=>by
  rw[AtL]at r ⊢;obtain⟨u,q,e,h1,h2⟩:=r;exact⟨u,q,e,AtH.keeps ho hd hs h1,AtL.keeps ho hd hs h2⟩
end
def A8(prog:Program)(w:World):HeapKind prog w Dat where
 is:=RQ
 hash:=Dv
 draws:=HS
 room:=fun A=>A.units+6<cLine
 inj:=fun hx hy=>AtH.inj 6 (DF hx.1) (DF hy.1) hx.2 hy.2
 keeps:=fun x ho hd hs=>⟨x.1,x.2.keeps ho hd hs⟩
 pyHash:=fun hu hk h=>Xx 6 hk.1 hk.2 hu h
 eqBool:=fun hu hx hy h=>(FZ 6 (DF hx.1) (DF hy.1) hx.2 hy.2 hu).1 _ _ _ _ (by rw[ZH hx.1 hy.1];exact h)
 quiet:=fun hk h=>Vd 6 8 (by decide) hk.1 hk.2 h
end
def A1(Ad:List (Dat×Dat))(k:Dat):Option Dat:=(Ad.find? fun x=>decide (x.1=k)).map (·.2)
def Hq(Ad:List (Dat×Dat))(k v:Dat):List (Dat×Dat):=if (A1 Ad k).isSome then Ad.map (fun x=>if x.1=k then(x.1,v)else x)else Ad++[(k,v)]
theorem OF{Ad:List (Dat×Dat)}{k v:Dat}(h:A1 Ad k=none):Hq Ad k v=Ad++[(k,v)]:=by simp[Hq,h]
theorem DRep.length{K:PySem.W.Frag}{H:Hp}:∀{Ad:List (Dat×Dat)}{xs:List (Dat×Addr×Value)},DRep K H Ad xs->xs.length=Ad.length
 |[],_,h=>by rw[DRep]at h;subst h;rfl
 |(k,d)::r,_,h=>by
  rw[DRep]at h;obtain⟨a,u,Lb,rfl,_,_,_,h6⟩:=h;rw[List.length_cons,List.length_cons,DRep.length h6]
theorem DRep.keys{K:PySem.W.Frag}{H:Hp}:∀{Ad:List (Dat×Dat)}{xs:List (Dat×Addr×Value)},DRep K H Ad xs->∀x∈xs,B4 6 x.1=true/\Rep K H x.1 (.ref x.2.1)
 |[],_,h,x,hx=>by rw[DRep]at h;subst h;cases hx
 |(k,d)::r,_,h,x,hx=>by
  rw[DRep]at h;obtain⟨a,u,Lb,rfl,h2,h3,_,h6⟩:=h;rcases List.mem_cons.mp hx with e|hx
  ·subst e;exact⟨h2,h3⟩
  ·exact DRep.keys h6 x hx
theorem DRep.look{K:PySem.W.Frag}{H:Hp}(k:Dat):∀{Ad:List (Dat×Dat)}{xs:List (Dat×Addr×Value)},DRep K H Ad xs->(A1 Ad k).isSome=(atKey xs k).isSome/\∀d,A1 Ad k=some d->∃p v,atKey xs k=some p/\RelV v p.2/\Rep K H d v
 |[],_,h=>by rw[DRep]at h;subst h;exact⟨rfl,fun d e=>by simp[A1]at e⟩
 |(k',d')::r,_,h=>by
  rw[DRep]at h;obtain⟨a,u,Lb,rfl,_,_,⟨v,h4,h5⟩,h6⟩:=h;by_cases e:k'=k
  ·subst e;refine⟨by simp[A1,atKey],fun d hd=>⟨(a,u),v,by simp[atKey],h4,?_⟩⟩;simp[A1]at hd;subst hd;exact h5
  ·have:=DRep.look k h6
   have e1:A1 ((k',d')::r) k=A1 r k:=by simp[A1,e]
   have e2:atKey ((k',a,u)::Lb) k=atKey Lb k:=by simp[atKey,e]
   rw[e1,e2];exact this
theorem DRep.put{K:PySem.W.Frag}{H:Hp}{k d:Dat}{a:Addr}{u:Value}{v:V}(hk:B4 6 k=true)(ra:Rep K H k (.ref a))(ru:RelV v u)(rd:Rep K H d v){Ad:List (Dat×Dat)}{xs:List (Dat×Addr×Value)}(h:DRep K H Ad xs) :
  DRep K H (Hq Ad k d) (storedH xs k a u):=by
 have look:=(DRep.look k h).1;have app:∀{Ad:List (Dat×Dat)}{xs:List (Dat×Addr×Value)},DRep K H Ad xs->DRep K H (Ad++[(k,d)]) (xs++[(k,a,u)]):=by
  intro Ad
  induction Ad with
  |nil=>intro xs h;rw[DRep]at h;subst h;exact⟨a,u,[],rfl,hk,ra,⟨v,ru,rd⟩,rfl⟩
  |cons p r ih=>
   intro xs h;obtain⟨k',d'⟩:=p;rw[DRep]at h;obtain⟨a',u',Lb,rfl,h2,h3,h4,h6⟩:=h;exact⟨a',u',_,rfl,h2,h3,h4,ih h6⟩
 have map:∀{Ad:List (Dat×Dat)}{xs:List (Dat×Addr×Value)},DRep K H Ad xs->DRep K H (Ad.map fun x=>if x.1=k then(x.1,d)else x) (xs.map (putAt k u)):=by
  intro Ad
  induction Ad with
  |nil=>intro xs h;rw[DRep]at h;subst h;rfl
  |cons p r ih=>
   intro xs h;obtain⟨k',d'⟩:=p;rw[DRep]at h;obtain⟨a',u',Lb,rfl,h2,h3,h4,h6⟩:=h;rw[List.map_cons,List.map_cons];by_cases e:k'=k
   ·simp only[e,if_true,putAt];subst e;exact⟨a',u,_,rfl,h2,h3,⟨v,ru,rd⟩,ih h6⟩
   ·simp only[e,if_false,putAt];exact⟨a',u',_,rfl,h2,h3,h4,ih h6⟩
 unfold Hq storedH;rw[look];by_cases e:(atKey xs k).isSome=true
 ·rw[if_pos e,if_pos e];exact map h
 ·rw[if_neg e,if_neg e];exact app h
section
variable {X:Cx}{AD:List (Addr×Obj)}{σ:St}{H:Hp}{s:Shared}{p:Addr}{G:Gs}{Ad:List (Dat×Dat)}{xs:List (Dat×Addr×Value)}
theorem Inv.big(I:Inv X AD σ H s):sysModules<s.heap.objs.size:=by have h:mainGlobals<s.heap.objs.size:=(I.mod.glob.keeps I.bk).lt;exact Nat.lt_trans (by decide) h
theorem Ig(I:Inv X AD σ H s){k:Dat}{a:Addr}(hk:B4 6 k=true)(r:Rep X.K H k (.ref a)):RQ s.heap k a:=⟨hk,r.at I (DF hk) rfl⟩
theorem HV(I:Inv X AD σ H s)(h:H p=some (EN p xs))(r:DRep X.K H Ad xs):(p==sysModules)=false/\xs.length<=sizeLine/\s.heap.DictOfH (A8 X.prog X.w) p xs:=by obtain⟨⟨h1,h2,h3,o,es,ep,h4,h5,h6,h7⟩,_,_⟩:=(show ObjOk X.prog X.w H s.heap p (.ext (NT p xs))from I.hok p _ h);exact⟨h1,h2,o,es,ep,h4,h5,h6,h7,fun x hx=>Ig I (r.keys x hx).1 (r.keys x hx).2,h3⟩
theorem Kb{P:Program}{w:World}{H:Hp}{h:Heap}(d:NT p xs h):ObjOk P w H h p (EN p xs):=by obtain⟨h1,h2,h3,o,es,ep,h4,h5⟩:=id d;exact⟨d,⟨o,h4⟩,fun k1 k2 ⟨g1,g2,g3,o',GU,TR,g4,g5⟩ hk=>⟨g1,g2,g3,o',GU,TR,hk _ g4,g5⟩⟩
theorem MU{Lb:List (Dat×Addr×Value)}{Ct:List (Dat×Dat)}(o:GOk X.K H G)(hG:G p=some (.dct Ad))(r:DRep X.K (hid H G) Ct Lb):Ext H G (upd H p (EN p Lb)) (put G p (.dct Ct))/\GOk X.K (upd H p (EN p Lb)) (put G p (.dct Ct)):=by
 have E:Ext H G (upd H p (EN p Lb)) (put G p (.dct Ct)):=⟨fun b u e h=>by
  have:b≠p:=by rintro rfl;rw[hG]at h;cases h
  rw[AR this];exact e,fun b h=>by
  by_cases hb:b=p
  ·subst hb;left;rw[hG];exact nofun
  ·rw[Ak hb]at h;exact .inl h⟩
 refine⟨E,fun b u q=>?_⟩;by_cases hb:b=p
 ·subst hb;rw[AI]at q;cases q;exact⟨Lb,Ax,r.same E.hid⟩
 ·rw[Ak hb]at q;exact(o b u q).ext E.hid (AR hb)
theorem J4(o:GOk X.K H G)(hp:H p=none):Ext H G (upd H p (EN p [])) (put G p (.dct []))/\GOk X.K (upd H p (EN p [])) (put G p (.dct [])):=by
 have E:Ext H G (upd H p (EN p [])) (put G p (.dct [])):=⟨fun b u e _=>by rw[AR (Ab e hp)];exact e,fun b h=>by
  by_cases hb:b=p
  ·subst hb;exact .inr hp
  ·rw[Ak hb]at h;exact .inl h⟩
 refine⟨E,fun b u q=>?_⟩;by_cases hb:b=p
 ·subst hb;rw[AI]at q;cases q;exact⟨[],Ax,rfl⟩
 ·rw[Ak hb]at q;exact(o b u q).ext E.hid (AR hb)
end
section
variable {X:Cx}{ρ:Rho}{G:Gs}{e a b c:Expr}{d k:Dat}{p:Addr}{Ad:List (Dat×Dat)}{pos:Pos}
theorem Ea(hu:X.A.units+9<cLine)(ha:PX X ρ G a k)(hb:PX X ρ G b (.fn p))(hG:G p=some (.dct Ad))(hk:B4 6 k=true)(hr:∃l,k=.tup l):PXC X ρ G .NotIn a b (.bl (!(A1 Ad k).isSome)):=by
 intro AD s σ H I S;refine thn (ha AD s σ H I S) fun v s1 ⟨x,H1,I1,rx,_,_,e1,o1,r1,q1,BZ⟩=>?_;subst q1;subst BZ;refine thn (hb AD s1 σ H1 I1 (S.ext e1 o1)) fun u s2 ⟨y,H2,I2,ry,_,_,e2,o2,r2,q2,G6⟩=>?_;subst q2;subst G6;cases (show y=V.ref p from r2);cases ry;obtain⟨l,rfl⟩:=hr;have Uc:=(r1.same e2.hid).same AJ;have hx:∃t,x=V.ref t:=by rw[Rep]at Uc;obtain⟨t,_,e,_⟩:=Uc;exact⟨t,e⟩
 obtain⟨t,rfl⟩:=hx;cases rx;obtain⟨xs,h3,r3⟩:=o2 p _ hG;obtain⟨z1,z2,dd⟩:=HV I2 h3 (r3.same AJ);refine wpAny_notIn_heap (knd:=A8 X.prog X.w) (show X.A.units+1+6<cLine by lia) (Ig I2 hk Uc) z1 dd ⟨.bl _,H2,I2.tok _,rfl,.bl _,_,e1.trans e2,o2,?_,rfl,rfl⟩;rw[<-(DRep.look _ r3).1];rfl
end
section
variable {X:Cx}
def kM(K:PySem.W.Frag):V->Option Int->Option Int->Hp->VK->Prop:=fun x lo hi H Q=>∃a xs,x=.ref a/\SqT K H a xs/\(LZ xs lo hi=xs->Q (.ref a) H)/\∀p,H p=none->Q (.ref p) (upd H p (.tup (LZ xs lo hi)))
theorem ZY:SlR X (kM X.K):=by
 intro AD s σ H x v vl vu lo hi sl Q I rx hs pl pu h;obtain⟨a,xs,rfl,hx,q1,q2⟩:=h;by_cases hw:HT.sIx xs.length 0 lo=0/\HT.sIx xs.length xs.length hi=xs.length
 ·cases rx;obtain⟨AO,r,ht,hz⟩:=I.tuple hx;have AY:AO.toArray.size=xs.length:=by rw[List.size_toArray];exact r.length.symm
  have cut:LZ xs lo hi=xs:=by unfold LZ;rw[hw.1,hw.2];simp
  refine⟨"tuple",_,PyProof.Rows.slot_tuple_getitem.lookup,ht.typeIs,?_⟩;obtain⟨os,Nq,gp,eX⟩:=id hs;have km:s.TypeIs (.ref sl) "slice":=⟨os,Nq,gp⟩;unfold getItem;try with_reducible refine wpAny_holding ?_
  first|refine wpAny_bind (wpAny_pure ?_)|skip
  refine wpAny_bind (wpAny_sequenceKey ht.typeIs (by decide) ?_);refine wpAny_bind (wpAny_callSpecial?_slot (name:=Str.ofString "__getitem__") ht.typeIs PyProof.Rows.slot_tuple_getitem
   (wpAny_call_entry PyProof.Rows.slot_tuple_getitem ht.typeIs entry_tuple_getitem ?_ (args_tuple_getitem _ _)))
  show wpAny _ _ (Builtin.Tuple.tupleItemsOf (.ref a) >>= _) _ _ s;refine wpAny_bind (tupleItemsOf_ ht ?_);refine wpAny_bind (wpAny_typeOf km ?_);rw[if_pos (by decide)];refine wpAny_bind (HT.sliceApplied_gen hs pl pu ?_);have kQ:(((HT.sIx AO.toArray.size 0 lo:Nat):Int)==0&&(1:Int)==1&&(HT.sIx AO.toArray.size AO.toArray.size hi-HT.sIx AO.toArray.size 0 lo)==AO.toArray.size)=true:=by
   rw[AY,hw.1,hw.2];simp
  show wpAny _ _ (if (((HT.sIx AO.toArray.size 0 lo:Nat):Int)==0&&(1:Int)==1&&(HT.sIx AO.toArray.size AO.toArray.size hi-HT.sIx AO.toArray.size 0 lo)==AO.toArray.size)=true then _ else _) _ _ s;rw[if_pos kQ];refine wpAny_bind ?_;unfold Builtin.Tuple.tupleIsExact;refine wpAny_bind (wpAny_typeOf ht.typeIs (wpAny_pure ?_));rw[if_pos (by decide)];exact wpAny_bind (wpAny_rule (wpAny_pure ⟨_,rfl,wpAny_pure ⟨.ref a,H,I,rfl,q1 cut⟩⟩))
 ·exact cv AD s σ H (.ref a) v vl vu lo hi sl Q I rx hs pl pu ⟨a,xs,rfl,hx,hw,q2⟩
end
theorem Ft(Ad:List (Dat×Dat))(k v:Dat):(Hq Ad k v).length<=Ad.length+1:=by
 unfold Hq;split
 ·rw[List.length_map];lia
 ·rw[List.length_append,List.length_singleton];exact Nat.le_refl _
section
variable {X:Cx}{ρ:Rho}{G:Gs}{e a b c:Expr}{es:List Expr}{d d' d1 d2 k:Dat}{ds l m:List Dat}{pos:Pos}{i j:Int}{p:Addr}{Ad:List (Dat×Dat)}{D:DE}{rest:List Stmt}
def PXo(X:Cx)(ρ:Rho)(G:Gs)(e:Option Expr)(o:Option Int):Prop:=match e,o with
 |none,none=>True
 |some e,some i=>PX X ρ G e (.int i)
 |_,_=>False
def QF(l:List Dat)(lo hi:Option Int):List Dat:=(l.drop (HT.sIx l.length 0 lo)).take (HT.sIx l.length l.length hi-HT.sIx l.length 0 lo)
def tWo(X:Cx)(e:Option Expr):TO:=fun σ H Q'=>∃ρ G o,PXo X ρ G e o/\Stt X H σ ρ G/\∀H',Ext H G H' G->GOk X.K H' G->Q' o H'
theorem aB{e:Option Expr}:PO X e (tWo X e):=by
 intro AD s σ H Q I ⟨ρ,G,o,h,S,k⟩;cases e with
 |none=>
  cases o with
  |none=>exact ZJ AD s σ H Q I (k H Ext.refl S.own)
  |some i=>exact h.elim
 |some e=>
  cases o with
  |none=>exact h.elim
  |some i=>
   refine ZK (Av (X:=X) (e:=e)) AD s σ H Q I ⟨ρ,G,_,h,S,fun v H' ⟨d,G',e',o',r',q1,q2⟩=>?_⟩;subst q1;subst q2;exact⟨i,r',k H' e' o'⟩
theorem SM{K:PySem.W.Frag}{H:Hp}{vs:List V}{lo hi:Option Int}(r:RepL K H l vs):RepL K H (QF l lo hi) (LZ vs lo hi):=by unfold QF LZ;rw[r.length];exact(r.drop _).take _
theorem Le{lo hi:Option Expr}{p2:Pos}{ol oh:Option Int}(ha:PX X ρ G a (.tup l))(hl:PXo X ρ G lo ol)(hh:PXo X ρ G hi oh):PX X ρ G (.Subscript a (.Slice lo hi none p2) pos) (.tup (QF l ol oh)):=Bb (VR ZY Av aB aB) fun σ H S=>⟨ρ,G,_,ha,S,fun x H1 ⟨_,_,e1,o1,r1,q1,BZ⟩=>by
  subst q1;subst BZ;refine⟨ρ,_,ol,hl,S.ext e1 o1,fun H2 e2 o2=>⟨ρ,_,oh,hh,S.ext (e1.trans e2) o2,fun H3 e3 o3=>?_⟩⟩;have r3:=r1.same (e2.trans e3).hid;have rj:=r3;rw[Rep]at r3;obtain⟨p,vs,e4,h4,r4⟩:=r3;refine⟨p,vs,e4,An AJ h4,fun z=>?_,fun t ht=>Po.trans (e1.trans (e2.trans e3)) (Nd o3 ht (SM r4))⟩;refine Po.trans (e1.trans (e2.trans e3)) (Ba o3 ?_);rw[Rep];exact⟨p,vs,rfl,h4,by have:=SM (lo:=ol) (hi:=oh) r4;rw[z]at this;exact this⟩⟩
theorem Td(hc:X.calm=true):Bi X (.builtin "sum") (fun xs H Q=>∃(p:Addr)(ns:List Int),xs=[.ref p]/\SqL X.K H p (ns.map V.int)/\Q (.int ns.sum) H):=by
 intro AD s σ H xs us Q I r h;obtain⟨p,ns,rfl,hq,q⟩:=h;obtain⟨u,rfl,rx⟩:=Fp r;cases rx;obtain⟨AO,r',pl,hz⟩:=I.list hq;have hi:IntsAre AO ns:=Gm r';obtain⟨xs,hx⟩:=hi.allInts.items;have hl:=pl.isList;rw[hx]at hl;refine PySem.sum_intListG (I.ok.hd hc) hl fun h' tk t' hk=>⟨.int ns.sum,H,I.kept hk,⟨t',?_⟩,q⟩;have e:ns=xs.toList.map (·.1):=by
  rw[<-hi.numsOf,<-nums_intItems,<-hx]
 rw[preSum_eq,List.take_of_length_le (by simp),<-e]
theorem Vq{ns:List Int}{pp:Pos}(hc:X.calm=true)(hm:X.mg "sum"=none)(ha:PX X ρ G a (.lst (ns.map .int)))(hg:Gl X "sum":=by rfl)(he:starEach [a] X.env=(false,eval a X.env)::starEach [] X.env:=by rfl):PX X ρ G (.Call (.Name "sum" pp) [a] [] pos) (.int ns.sum):=Co (Td hc) hg hm boot_sum ha (fun H x Q o r k=>by
  rw[Rep]at r;obtain⟨q,vs,e,h1,r1⟩:=r;exact⟨q,ns,by rw[e],by rw[<-r1.ints];exact SqL.of (AJ _ _ h1),k _ _ (Ba o rfl)⟩) (he:=he)
theorem cW{Q:List Dat->Gs->Prop}(h:Q [] G):WA X ρ G [] Q:=Rp CW fun σ H S=>⟨[],G,Ext.refl,S.own,RepL.nil,h⟩
theorem R9{Q:List Dat->Gs->Prop}(h:WE X ρ G e fun d G1=>WA X ρ G1 es fun ds G2=>Q (d::ds) G2)(hs:starEach (e::es) X.env=(false,eval e X.env)::starEach es X.env:=by rfl):WA X ρ G (e::es) Q:=Rp (A7 Av J8 hs) fun σ H S=>⟨ρ,G,_,h,S,fun x H1 ⟨d,G1,e1,o1,r1,w1⟩=>⟨ρ,G1,_,w1,S.ext e1 o1,fun xs H2 ⟨ds,G2,e2,o2,r2,q2⟩=>⟨d::ds,G2,e1.trans e2,o2,RepL.cons (r1.same e2.hid) r2,q2⟩⟩⟩
theorem cP{S:SpD}{kk:Nat}{ps:List Str}{x:Str}{pp:Pos}{Q:Dat->Gs->Prop}(F:Df X.prog X.w X.K X.mg X.base x ps kk S)(hr:Room kk X.A)(ha:WA X ρ G (e::es) fun ds G'=>S ds G' Q)(hg:Gl X x:=by rfl)(HJ:(x==("__debug__":Str))=false:=by decide)(he:starEach (e::es) X.env=(false,eval e X.env)::starEach es X.env:=by rfl)(hpl:(backTo pos (starEach es X.env)).any (·.1)=false:=by rfl):WE X ρ G (.Call (.Name x pp) (e::es) [] pos) Q:=by obtain⟨f,fd,F,hm,hk,hb⟩:=F.ex;exact Bb (SF F hr hg hm hk hb .nil Uy J8 HJ he hpl) fun σ H St=>⟨ρ,G,_,ha,St,fun vs H1 ⟨ds,G1,e1,o1,r1,q1⟩=>⟨ds,G1,Q,o1,by rw[List.append_nil];exact r1,q1,fun v H' d G' e' o' r' q'=>⟨d,G',e1.trans e',o',r',q'⟩⟩⟩
theorem ZQ{Q:Dat->Gs->Prop}(h:∀p,G p=none->Q (.fn p) (put G p (.dct []))):WE X ρ G (.Dict [] [] pos) Q:=fun AD s σ H I S=>by
 refine wpAny_Dict_empty ⟨.ref s.heap.objs.size,_,I.laid (a:=s.heap.objs.size) (o:=EN s.heap.objs.size []) (t':=s.toks) (fun _ _ q=>Heap.get?_push_of_some _ q) (Nat.le_refl _) ?_,rfl,?_⟩
 ·refine Kb ⟨beq_eq_false_iff_ne.mpr (Ne.symm (Nat.ne_of_lt (Inv.big I))),Nat.zero_le _,List.nodup_nil,_,#[],0,Heap.get?_push_size _ rfl,⟨rfl,rfl,rfl⟩,rfl,rfl⟩
 ·have hp:H s.heap.objs.size=none:=I.hok.fresh (Nat.le_refl _);obtain⟨E,O⟩:=J4 (X:=X) S.own hp;exact⟨.fn s.heap.objs.size,_,E,O,rfl,h _ (S.own.free hp)⟩
theorem JR(hu:X.A.units+9<cLine)(ha:PX X ρ G a (.fn p))(hb:PX X ρ G b k)(hG:G p=some (.dct Ad))(hk:B4 6 k=true)(hr:∃l,k=.tup l)(hl:A1 Ad k=some d)(hs:IC b:=by intro _ _;rfl):PX X ρ G (.Subscript a b pos) d:=by
 intro AD s σ H I S;refine Subscript_ (thn (ha AD s σ H I S) fun u s1 ⟨x,H1,I1,rx,_,_,e1,o1,r1,q1,BZ⟩=>?_);subst q1;subst BZ;refine thn (hb AD s1 σ H1 I1 (S.ext e1 o1)) fun iv s2 ⟨y,H2,I2,ry,_,_,e2,o2,r2,q2,G6⟩=>?_;subst q2;subst G6;cases (show x=V.ref p from r1);cases rx;obtain⟨l,rfl⟩:=hr;have YS:=r2.same AJ;have hx:∃t,y=V.ref t:=by rw[Rep]at YS;obtain⟨t,_,e,_⟩:=YS;exact⟨t,e⟩
 obtain⟨t,rfl⟩:=hx;cases ry;obtain⟨xs,h3,r3⟩:=o2 p _ hG;obtain⟨z1,z2,dd⟩:=HV I2 h3 (r3.same AJ);obtain⟨q,v,hq,rv,rd⟩:=(DRep.look _ r3).2 d hl;refine tail_any (ops:=[.ref p,.ref t]) dd.typeIs PySem.F.slot_dict_getitem.lookup ?_ (hs _ _);exact wpAny_getItem_heap (knd:=A8 X.prog X.w) (show X.A.units+1+6<cLine by lia) (Ig I2 hk YS) dd hq ⟨v,H2,I2.tok _,rv,d,_,e1.trans e2,o2,rd,rfl,rfl⟩
theorem Ht{pos':Pos}(hu:X.A.units+9<cLine)(hv:PX X ρ G e d)(ha:PX X ρ G a (.fn p))(hb:PX X ρ G b k)(hG:G p=some (.dct Ad))(hk:B4 6 k=true)(hr:∃l,k=.tup l)(hz:Ad.length<sizeLine)(q:WSs X ρ (put G p (.dct (Hq Ad k d))) rest D)(hs:swapsWith e (some (.Subscript a b pos')) pos.line X.env=pure false:=by rfl):WSs X ρ G (.Assign [.Subscript a b pos'] e pos::rest) D:=BY fun AD s σ H I S=>by
 refine wpAny_Assign_Subscript (thn (hv AD s σ H I S) fun r s0 ⟨vv,H0,I0,p6,_,_,e0,o0,r0,q0,oO⟩=>?_) hs;subst q0;subst oO;refine thn (ha AD s0 σ H0 I0 (S.ext e0 o0)) fun u s1 ⟨x,H1,I1,rx,_,_,e1,o1,r1,q1,BZ⟩=>?_;subst q1;subst BZ;refine thn (hb AD s1 σ H1 I1 (S.ext (e0.trans e1) o1)) fun iv s2 ⟨y,H2,I2,ry,_,_,e2,o2,r2,q2,G6⟩=>?_;subst q2;subst G6;cases (show x=V.ref p from r1);cases rx;obtain⟨l,rfl⟩:=hr;have YS:=r2.same AJ;have hx:∃t,y=V.ref t:=by rw[Rep]at YS;obtain⟨t,_,e,_⟩:=YS;exact⟨t,e⟩
 obtain⟨t,rfl⟩:=hx;cases ry;obtain⟨xs,h3,r3⟩:=o2 p _ hG;obtain⟨z1,z2,dd⟩:=HV I2 h3 (r3.same AJ);have rn:=DRep.put hk r2 p6 (r0.same (e1.trans e2).hid) r3;refine wpAny_setItem_heap (hsz:=z2) (knd:=A8 X.prog X.w) (show X.A.units+1+6<cLine by lia) (Ig I2 hk YS) dd fun h' dU JM=>?_;obtain⟨E,O⟩:=MU (X:=X) o2 hG rn;obtain⟨o',GU,TR,g1,g2,g3,g4,_,g5⟩:=dU;refine⟨σ,_,I2.write (x:=p) (e:=p) (t':=s2.toks+HS (.tup l)) (by rw[h3];exact True.intro) (.inl rfl) (fun b o hb z=>(JM.2 b hb).trans z) ⟨o',g1⟩ (Kb ⟨z1,?_,g5,o',GU,TR,g1,g2,g3,g4⟩),ρ,_,(e0.trans (e1.trans e2)).trans E,S.ext ((e0.trans (e1.trans e2)).trans E) O,q⟩;exact Nat.le_trans (Nat.le_of_eq rn.length) (Nat.le_trans (Ft _ _ _) hz)
end
section
variable {X:Cx}{ρ:Rho}{G:Gs}{elt AL Ac:Expr}{ifs:List Expr}{scope:Scope}{Au pos pos':Pos}{tail:Env->Value->Sem Unit}{Nc:List Str}{caps:List (Option Nat)}{l:List Dat}{f:Dat->Rho->Option Rho}{D:DE}{rest:List Stmt}
theorem Oi(n:Nat){x:Str}(Pv:Nat->List Dat->Gs->Prop)(hN:X.N.Nodup)(ht:KN elt AL Ac ifs scope Au tail)(Sc:CompSc X scope Nc caps)(BI:X.calm=true)(hi:WI X ρ G AL Ac fun l' G'=>l'=l/\Pv 0 [] G')(hg:∀C s' H' fp,PGD (AW X Nc scope C s' H' fp) AL f)(hle:∀d ρ',f d (A6 caps ρ)=some ρ'->ρ'.length=(A6 caps ρ).length/\∀(j:Nat) e,(A6 caps ρ)[j]?=some (some e)->ρ'[j]?=some (some e))(hz:l.length<=sizeLine)(CI:∀C s' H' fp D i d Ae G',l[i]?=some d->Pv i Ae G'->G' D=none->∃ρ',f d (A6 caps ρ)=some ρ' ∧
   Iq (AW X Nc scope C s' H' fp) ρ' (put G' D (.lst Ae)) (tail (AW X Nc scope C s' H' fp).env (.ref D)) fun P8=>∃Dk G4,Dk.length<=Ae.length+1/\G4 D=none/\P8=put G4 D (.lst Dk)/\Pv (i+1) Dk G4)(hd:∀Ae G',Pv l.length Ae G'->WSs X (ρ.set n (some (.lst Ae))) G' rest D)(hn:X.N[n]?=some x:=by rfl)(hx:X.env.kindOf x=some .local:=by rfl)(fo:swapsWith (.ListComp elt [⟨AL,Ac,ifs,0⟩] scope Au) (some (.Name x pos')) pos.line X.env=pure true:=by rfl)(OZ:∀x,foldedSetIterable Ac X.env x=pure x:=by intro _;rfl):WSs X ρ G (.Assign [.Name x pos'] (.ListComp elt [⟨AL,Ac,ifs,0⟩] scope Au) pos::rest) D:=BY fun AD s σ H I S=>by
 rw[exec_Assign_Name_used _ _ _ _ fo];refine wpAny_bind (wpAny_standAt (wpAny_bind ?_));show wpAny _ X.A (do let _ <-comprehension (.ListComp elt [⟨AL,Ac,ifs,0⟩] scope Au) scope X.env _ (newList []) false (eval Ac X.env) (some (assign (.Name x pos') X.env))) _ _ s;refine wpAny_bind (wpAny_mono (wpAny_comprehension_free (use:=some (assign (.Name x pos') X.env)) (Q:=fun _ s'=>SP X AD (Gk X H G { D with nx:=fun ρ' G'=>WSs X ρ' G' rest D }) .next s') rfl OZ (Cc fun x hx hf=>I.ok.has x.1 (Sc.free x hx hf)) Sc.kind Sc.names
  (thn (hi AD s σ H I S) fun v s1 h1=>thn h1 fun dQ s2 h2=>?_)) (fun _ s' hq=>wpAny_pure (wpAny_pure hq)) fun _ _ e=>e)
 obtain⟨it,fp,tn,J,H2,e,I2,T,Ci,f2,l',G2,e2,o2,wk,q,p0⟩:=h2;subst e;subst q;refine IH (RR:=fun Ae C=>compPost (model X.prog X.w) X.A X.xe (some (assign (.Name x pos') X.env)) (fun _ s'=>SP X AD (Gk X H G { D with nx:=fun ρ' G'=>WSs X ρ' G' rest D }) .next s') Ae C) Pv ht Sc BI hg hle hz CI I2 (S.ext e2 o2) T Ci f2 wk p0 ?_;rintro Dd C s3 sf σc Hf Gf Ae k3 rfl ⟨H3,I3,f3,Ic⟩ ef of gG pf;obtain⟨m,hm,_⟩:=Ic.loc;have SE:∀b∈fp,(b∈X.ex\/X.s₀.heap.objs.size<=b)/\b≠X.env.locals/\(∀x c,X.env.cells.lookup x=some c->c≠b)/\∀p∈X.pn++AD,p.1≠b:=fun b hb=>
  ⟨(f3 b hb).2.2.2.1,(f3 b hb).2.1,(f3 b hb).2.2.2.2.1,(f3 b hb).2.2.2.2.2⟩
 have I1:Inv X AD σ Hf sf:=I3.call' Ic.os Ic.base Ic.hok Ic.bare SE;have hC:Hf s3.heap.objs.size=none:=Ic.free;have aE:∀x c,X.env.cells.lookup x=some c->c≠s3.heap.objs.size:=fun x c e z=>by
  obtain⟨v,o,ho,_⟩:=I3.cell x c e;rw[z]at ho;exact absurd (Heap.lt_size ho) (Nat.lt_irrefl _)
 obtain⟨E,O,R⟩:=HZ (X:=X) of AI;rw[BG gG]at E O R;show wpAny (model X.prog X.w) X.A (assign (.Name x pos') X.env (.ref Dd)) _ _ sf;refine wpAny_assign_Name (Ly I1 hN hn (.inl hx) (v:=.ref Dd) (show RelV (V.ref Dd) (Value.ref Dd)from rfl) (fun dI oq JM=>?_) (.inr hx));obtain⟨a,sb,ha⟩:=JM;have Bq:s3.heap.objs.size≠a:=by
  rcases ha with z|z
  ·rw[z];exact Nat.ne_of_gt I3.lt
  ·exact Ne.symm (aE _ _ z)
 refine⟨m,Heap.Ns.sameBut (show sf.heap.Ns s3.heap.objs.size m from hm) sb Bq,fun h' hs=>?_⟩;have If:Inv X AD (σ.set n (some (.ref Dd))) Hf { dI with heap:=h' }:=by
  refine oq.turned (t':=dI.toks) (it:=s3.heap.objs.size) (fun b o hb e=>hs.extBut b o hb e) hC (Nat.ne_of_gt I3.lt) (.inr I3.sz) aE fun p hp z=>?_
  have:=(I3.pin p hp).1
  rw[z]at this;exact absurd (Heap.lt_size this) (Nat.lt_irrefl _)
 exact⟨_,Hf,If,_,Gf,e2.trans (ef.trans E),(S.ext (e2.trans (ef.trans E)) O).set R,hd Ae Gf pf⟩
end
abbrev Sq:=Int×Int
def sq(p:Sq):Dat:=.tup [.int p.1,.int p.2]
def fl(l:List Sq):Dat:=.tup (l.map sq)
def Ay(p:Sq×Sq):Dat:=.tup [sq p.1,sq p.2]
theorem Kh(p q:Sq):eqD (sq p) (sq q)=decide (p=q):=by obtain⟨a,b⟩:=p;obtain⟨c,d⟩:=q;simp only[sq,eqD,eqL,Bool.and_true];rw[Bool.eq_iff_iff];simp[Prod.ext_iff]
theorem BQ(l:List Sq)(p:Sq):((l.map sq).any fun e=>eqD e (sq p))=l.contains p:=by
 rw[List.any_map];have:(fun e=>eqD e (sq p)) ∘ sq=fun q=>q==p:=by
  funext q;simp only[Function.comp,Kh];rw[Bool.eq_iff_iff];simp
 rw[this]
 induction l with
 |nil=>rfl
 |cons q l ih=>
  rw[List.any_cons,List.contains_cons,ih];congr 1;rw[Bool.eq_iff_iff,beq_iff_eq,beq_iff_eq];exact eq_comm
theorem Am(p:Sq)(n:Nat):AH (n+1) (sq p)=true:=by simp only[sq,AH,List.all_cons,List.all_nil,Bool.and_true,Bool.and_eq_true];exact⟨JE rfl n,JE rfl n⟩
theorem GB(l:List Sq)(n:Nat):(l.map sq).all (AH (n+1))=true:=by rw[List.all_eq_true];intro d hd;obtain⟨p,_,rfl⟩:=List.mem_map.mp hd;exact Am p n
theorem Kv{p q:Sq}(h:sq p=sq q):p=q:=by obtain⟨a,b⟩:=p;obtain⟨c,d⟩:=q;simp only[sq,Dat.tup.injEq,List.cons.injEq,Dat.int.injEq,and_true]at h;rw[h.1,h.2]
theorem Jz:∀{l m:List Sq},l.map sq=m.map sq->l=m
 |[],[],_=>rfl
 |[],_::_,h=>by simp at h
 |_::_,[],h=>by simp at h
 |p::l,q::m,h=>by
  simp only[List.map_cons,List.cons.injEq]at h;rw[Kv h.1,Jz h.2]
theorem ax{l m:List Sq}(h:fl l=fl m):l=m:=by simp only[fl,Dat.tup.injEq]at h;exact Jz h
theorem JT{α β:Type}(f:α->β){l:List α}{i:Int}{x:α}(h:atI l i=some x):atI (l.map f) i=some (f x):=by
 unfold atI at h ⊢;rw[List.length_map];cases q:ixN l.length i with
 |none=>rw[q]at h;cases h
 |some j=>rw[q]at h;show(l.map f)[j]?=_;rw[List.getElem?_map,show l[j]?=some x from h];rfl
def CB(ns:List Int)(k:Nat):Int:=ns.getD k 0
section
variable {X:Cx}{ρ:Rho}{G:Gs}{e a b c:Expr}{es:List Expr}{d:Dat}{pos:Pos}{D:DE}{rest x y:List Stmt}{p:Bool}
theorem Rv(M:Rho->Gs->Prop)(hc:PXT X ρ G c p)(ht:p=true->WSs X ρ G x { D with nx:=M })(hf:p=false->WSs X ρ G y { D with nx:=M })(hr:∀ρ' G',M ρ' G'->WSs X ρ' G' rest D):WSs X ρ G (.If c x y pos::rest) D:=BH hc (fun h=>(ht h).mono (fun ρ' G' q=>hr ρ' G' q) (fun _ _ q=>q) (fun _ _ q=>q) fun _ _ q=>q) (fun h=>(hf h).mono (fun ρ' G' q=>hr ρ' G' q) (fun _ _ q=>q) (fun _ _ q=>q) fun _ _ q=>q)
theorem DG{Q:Dat->Gs->Prop}(h:WE X ρ G e fun d G'=>∃q,Q d (rel G' q)):WE X ρ G e Q:=fun AD s σ H I S=>
 thn (h AD s σ H I S) fun _ _ z=>EP.mono z fun v H' ⟨d,G',e',o',r',q,hq⟩=>by
  have E:Ext H' G' H' (rel G' q):=⟨fun b u z _=>z,fun b hb=>by
   by_cases hq:b=q
   ·subst hq;rw[B3]at hb;exact absurd rfl hb
   ·rw[Dp hq]at hb;exact .inl hb⟩
  refine⟨d,rel G' q,e'.trans E,fun b u z=>?_,r'.same E.hid,hq⟩;by_cases hbq:b=q
  ·subst hbq;rw[B3]at z;cases z
  ·rw[Dp hbq]at z;exact(o' b u z).ext E.hid rfl
theorem BR{ρ:Rho}{i:Nat}(h:ρ[i]?=some none):∀d ρ',Ck i d ρ=some ρ'->ρ'.length=ρ.length/\∀(j:Nat) e,ρ[j]?=some (some e)->ρ'[j]?=some (some e):=by
 intro d ρ' e;cases e;refine⟨List.length_set,fun j e' h'=>?_⟩;by_cases z:i=j
 ·subst z;rw[h]at h';cases h'
 ·rw[List.getElem?_set_ne z];exact h'
theorem Jm{ρ:Rho}{i j:Nat}(h:ρ[i]?=some none)(h':ρ[j]?=some none):∀d ρ',Ej i j d ρ=some ρ'->ρ'.length=ρ.length/\∀(k:Nat) e,ρ[k]?=some (some e)->ρ'[k]?=some (some e):=by
 intro d ρ' e;cases d<;>simp only[Ej,reduceCtorEq]at e;rename_i l
 match l,e with
 |[a,b],e=>
  simp only[Option.some.injEq]at e;subst e;refine⟨by rw[List.length_set,List.length_set],fun k e' hk=>?_⟩;by_cases z:j=k
  ·subst z;rw[h']at hk;cases hk
  ·rw[List.getElem?_set_ne z];by_cases z2:i=k
   ·subst z2;rw[h]at hk;cases hk
   ·rw[List.getElem?_set_ne z2];exact hk
 |[],e=>simp at e
 |[_],e=>simp at e
 |_::_::_::_,e=>simp at e
end
section
variable {X:Cx}{ρ:Rho}{G:Gs}{e a b c:Expr}{es:List Expr}{d d' d1 d2 d3 k:Dat}{ds l m:List Dat}{pos:Pos}{i j z:Int}{p:Addr}{Ad:List (Dat×Dat)}{D:DE}{rest body:List Stmt}
theorem IF{f:Str}{id:String}{r:List V->Hp->VK->Prop}{pp:Pos}(hc:Bi X (.builtin id) r)(hg:Gl X f)(hm:X.mg f=none)(hv:bootBuiltins f=some (.builtin id))(ha:PX X ρ G a d1)(hb:PX X ρ G b d2)(hr:∀(H:Hp)(x y:V)(Q:VK),GOk X.K H G->Rep X.K (hid H G) d1 x->Rep X.K (hid H G) d2 y->(∀v H',Po X H G (fun d' G'=>d'=d/\G'=G) v H'->Q v H')->r [x,y] H Q)(hn:f≠"__name__":=by decide)(HJ:(f==("__debug__":Str))=false:=by decide)(he:starEach [a,b] X.env=(false,eval a X.env)::starEach [b] X.env:=by rfl)(he2:starEach [b] X.env=(false,eval b X.env)::starEach [] X.env:=by rfl)(hpl:(backTo pos (starEach [b] X.env)).any (·.1)=false:=by rfl):PX X ρ G (.Call (.Name f pp) [a,b] [] pos) d:=Bb (D0 hc hg hm hv (A7 Av (A7 Av CW he2) he) hn HJ he hpl) fun σ H S=>⟨ρ,G,_,ha,S,fun x H1 ⟨_,_,e1,o1,r1,q1,BZ⟩=>by
  subst q1;subst BZ;refine⟨ρ,_,_,hb,S.ext e1 o1,fun y H2 ⟨_,_,e2,o2,r2,q2,G6⟩=>?_⟩;subst q2;subst G6;exact hr H2 x y _ o2 (r1.same e2.hid) r2 fun v H' z=>Po.trans (e1.trans e2) z⟩
theorem YJ{pp:Pos}(hc:X.calm=true)(hm:X.mg "max"=none)(ha:PX X ρ G a (.int i))(hb:PX X ρ G b (.int j))(hg:Gl X "max":=by rfl)(he:starEach [a,b] X.env=(false,eval a X.env)::starEach [b] X.env:=by rfl)(he2:starEach [b] X.env=(false,eval b X.env)::starEach [] X.env:=by rfl)(hpl:(backTo pos (starEach [b] X.env)).any (·.1)=false:=by rfl):PX X ρ G (.Call (.Name "max" pp) [a,b] [] pos) (.int (max i j)):=IF (Te hc) hg hm (by decide +kernel) ha hb (fun H x y Q o rx ry k=>by
  rw[Rep]at rx ry;subst rx;subst ry;refine⟨i,j,rfl,k _ _ (Ba o ?_)⟩;rw[Rep];congr 1;split<;>lia) (he:=he) (he2:=he2) (hpl:=hpl)
theorem ZP{pp:Pos}(hc:X.calm=true)(hm:X.mg "min"=none)(ha:PX X ρ G a (.int i))(hb:PX X ρ G b (.int j))(hg:Gl X "min":=by rfl)(he:starEach [a,b] X.env=(false,eval a X.env)::starEach [b] X.env:=by rfl)(he2:starEach [b] X.env=(false,eval b X.env)::starEach [] X.env:=by rfl)(hpl:(backTo pos (starEach [b] X.env)).any (·.1)=false:=by rfl):PX X ρ G (.Call (.Name "min" pp) [a,b] [] pos) (.int (min i j)):=IF (Sz hc) hg hm (by decide +kernel) ha hb (fun H x y Q o rx ry k=>by
  rw[Rep]at rx ry;subst rx;subst ry;refine⟨i,j,rfl,k _ _ (Ba o ?_)⟩;rw[Rep];congr 1;split<;>lia) (he:=he) (he2:=he2) (hpl:=hpl)
theorem UI(hc:X.calm=true):Bi X (.builtin "min") (fun xs H Q=>∃(p:Addr)(ns:List Int),xs=[.ref p]/\SqL X.K H p (ns.map V.int)/\ns≠[]/\∀M,M∈ns->(∀a∈ns,M<=a)->Q (.int M) H):=by
 intro AD s σ H xs us Q I r h;obtain⟨p,ns,rfl,hq,Bq,q⟩:=h;obtain⟨u,rfl,rx⟩:=Fp r;cases rx;obtain⟨AO,r',pl,hz⟩:=I.list hq;have hi:IntsAre AO ns:=Gm r';obtain⟨xs,hx⟩:=hi.allInts.items;have Nk:ns=xs.toList.map (·.1):=by rw[<-hi.numsOf,<-nums_intItems,<-hx]
 have hsz:0<xs.size:=by
  have h3:0<ns.length:=List.length_pos_iff.mpr Bq;rw[Nk,List.length_map,Array.length_toList]at h3;exact h3
 have hl:=pl.isList;rw[hx]at hl;refine min_intList (I.ok.hd hc) hl hsz fun v h' tk hv hk=>?_;obtain⟨t,rfl⟩:=intItems_at hv;obtain⟨h1,h2⟩:=argBest_lt (numAt xs) (xs.size-1);refine⟨.int _,H,I.kept hk,⟨t,rfl⟩,q _ ?_ fun a ha=>?_⟩
 ·rw[Nk,numAt_eq];exact getD_mem (by rw[List.length_map,Array.length_toList];lia)
 ·rw[Nk]at ha;obtain⟨j,hj,rfl⟩:=mem_getD ha;rw[List.length_map,Array.length_toList]at hj;rw[<-numAt_eq];exact h2 j (by lia)
theorem T7(hc:X.calm=true):Bi X (.builtin "max") (fun xs H Q=>∃(p:Addr)(ns:List Int),xs=[.ref p]/\SqL X.K H p (ns.map V.int)/\ns≠[]/\∀M,M∈ns->(∀a∈ns,a<=M)->Q (.int M) H):=by
 intro AD s σ H xs us Q I r h;obtain⟨p,ns,rfl,hq,Bq,q⟩:=h;obtain⟨u,rfl,rx⟩:=Fp r;cases rx;obtain⟨AO,r',pl,hz⟩:=I.list hq;have hi:IntsAre AO ns:=Gm r';obtain⟨xs,hx⟩:=hi.allInts.items;have Nk:ns=xs.toList.map (·.1):=by rw[<-hi.numsOf,<-nums_intItems,<-hx]
 have hsz:0<xs.size:=by
  have h3:0<ns.length:=List.length_pos_iff.mpr Bq;rw[Nk,List.length_map,Array.length_toList]at h3;exact h3
 have hl:=pl.isList;rw[hx]at hl;refine max_intList (I.ok.hd hc) hl hsz fun v h' tk hv hk=>?_;obtain⟨t,rfl⟩:=intItems_at hv;obtain⟨h1,h2⟩:=argBest_gt (numAt xs) (xs.size-1);refine⟨.int _,H,I.kept hk,⟨t,rfl⟩,q _ ?_ fun a ha=>?_⟩
 ·rw[Nk,numAt_eq];exact getD_mem (by rw[List.length_map,Array.length_toList];lia)
 ·rw[Nk]at ha;obtain⟨j,hj,rfl⟩:=mem_getD ha;rw[List.length_map,Array.length_toList]at hj;rw[<-numAt_eq];exact h2 j (by lia)
theorem Rn{ns:List Int}{M:Int}{pp:Pos}(hc:X.calm=true)(hm:X.mg "min"=none)(ha:PX X ρ G a (.lst (ns.map .int)))(h1:M∈ns)(h2:∀a∈ns,M<=a)(hg:Gl X "min":=by rfl)(he:starEach [a] X.env=(false,eval a X.env)::starEach [] X.env:=by rfl):PX X ρ G (.Call (.Name "min" pp) [a] [] pos) (.int M):=Co (UI hc) hg hm (by decide +kernel) ha (fun H x Q o r k=>by
  rw[Rep]at r;obtain⟨q,vs,e,g1,r1⟩:=r;refine⟨q,ns,by rw[e],by rw[<-r1.ints];exact SqL.of (AJ _ _ g1),List.ne_nil_of_mem h1,fun M' g2 g3=>?_⟩;obtain rfl:M'=M:=Int.le_antisymm (g3 _ h1) (h2 _ g2);exact k _ _ (Ba o rfl)) (he:=he)
theorem Rt{ns:List Int}{M:Int}{pp:Pos}(hc:X.calm=true)(hm:X.mg "max"=none)(ha:PX X ρ G a (.lst (ns.map .int)))(h1:M∈ns)(h2:∀a∈ns,a<=M)(hg:Gl X "max":=by rfl)(he:starEach [a] X.env=(false,eval a X.env)::starEach [] X.env:=by rfl):PX X ρ G (.Call (.Name "max" pp) [a] [] pos) (.int M):=Co (T7 hc) hg hm (by decide +kernel) ha (fun H x Q o r k=>by
  rw[Rep]at r;obtain⟨q,vs,e,g1,r1⟩:=r;refine⟨q,ns,by rw[e],by rw[<-r1.ints];exact SqL.of (AJ _ _ g1),List.ne_nil_of_mem h1,fun M' g2 g3=>?_⟩;obtain rfl:M'=M:=Int.le_antisymm (h2 _ g2) (g3 _ h1);exact k _ _ (Ba o rfl)) (he:=he)
def WJ(G:Gs)(d:Dat)(l:List Dat):Prop:=d=.tup l\/d=.lst l\/∃p,d=.fn p/\G p=some (.lst l)
theorem Wo{H:Hp}{K:PySem.W.Frag}{y:V}(h:WJ G d l)(o:GOk K H G)(r:Rep K (hid H G) d y):∃p vs,y=.ref p/\(H p=some (.lst vs)\/SqT K H p vs)/\RepL K H l vs:=by
 rcases h with rfl|rfl|⟨p,rfl,hG⟩
 ·exact in_of (.inl r)
 ·exact in_of (.inr r)
 ·obtain⟨vs,h3,r3⟩:=o p _ hG;exact⟨p,vs,r,.inl h3,r3.same AJ⟩
theorem JV(hu:X.A.units+9<cLine)(ha:PX X ρ G a d1)(hb:PX X ρ G b d2)(hl:WJ G d2 l)(p1:AH 8 d1=true)(p2:l.all (AH 8)=true):PXC X ρ G .In a b (.bl (l.any fun e=>eqD e d1)):=EM (dF hu) ha hb fun H x y Q o hx hy k=>by
  obtain⟨p,vs,h1,h2,h3⟩:=Wo hl o hy;exact⟨p,vs,d1,l,h1,h2,h3,hx.same AJ,p1,p2,k _ _ (Ba o rfl)⟩
theorem A0(hu:X.A.units+9<cLine)(ha:PX X ρ G a d1)(hb:PX X ρ G b d2)(hl:WJ G d2 l)(p1:AH 8 d1=true)(p2:l.all (AH 8)=true):PXC X ρ G .NotIn a b (.bl (!(l.any fun e=>eqD e d1))):=EM (TK hu) ha hb fun H x y Q o hx hy k=>by
  obtain⟨p,vs,h1,h2,h3⟩:=Wo hl o hy;exact⟨p,vs,d1,l,h1,h2,h3,hx.same AJ,p1,p2,k _ _ (Ba o rfl)⟩
theorem N6(ha:PX X ρ G a (.int i))(hb:PX X ρ G b (.int j))(hc:PX X ρ G c (.int z))(hm:lastMarks [.LtE,.LtE] [b,c]=false:=by with_unfolding_all rfl):PXT X ρ G (.Compare a [.LtE,.LtE] [b,c] pos) (decide (i<=j)&&decide (j<=z)):=Vo (Ue ah ah Av Av Av hm) fun σ H S=>⟨ρ,G,_,ha,S,fun x H1 ⟨_,_,e1,o1,r1,q1,BZ⟩=>by
  subst q1;subst BZ;refine⟨ρ,_,_,hb,S.ext e1 o1,fun y H2 ⟨_,_,e2,o2,r2,q2,G6⟩=>?_⟩;subst q2;subst G6;refine⟨i,j,r1,r2,decide (i<=j),rfl,?_⟩;by_cases h:i<=j
  ·rw[decide_eq_true h,if_pos rfl];refine⟨ρ,_,_,hc,S.ext (e1.trans e2) o2,fun w' H3 ⟨_,_,e3,o3,r3,q3,pU⟩=>?_⟩;subst q3;subst pU;exact⟨j,z,r2,r3,decide (j<=z),rfl,_,(e1.trans e2).trans e3,o3,rfl,rfl⟩
  ·rw[decide_eq_false h,if_neg (by decide)];exact⟨false,rfl,_,e1.trans e2,o2,rfl,rfl⟩⟩
theorem Qj{apos Au:Pos}{Q:Dat->Gs->Prop}(hx:PX X ρ G a (.fn p))(hG:G p=some (.lst (l++[d])))(q:Q d (put G p (.lst l)))(Fi:attributeBase a "pop" X.env (eval a X.env)=eval a X.env:=by rfl)(Bo:(apos.endLine==Au.line)=true:=by rfl):WE X ρ G (.Call (.Attribute a "pop" apos) [] [] Au) Q:=Bb (b6 PySem.F.plainAttrs_list PySem.F.slot_list_pop PySem.F.type_list_pop bT Av Fi Bo) fun σ H S=>⟨ρ,G,_,hx,S,fun x H1 ⟨_,_,e1,o1,r1,q1,BZ⟩=>by
  subst q1;subst BZ;cases (show x=V.ref p from r1);obtain⟨vs,h1,r2⟩:=o1 p _ hG;have hl:=r2.length;rw[List.length_append,List.length_singleton]at hl;obtain⟨y,hy,ry⟩:=r2.get (i:=l.length) (d:=d) (by simp);refine⟨.inl ⟨rfl,vs,SqL.of h1⟩,p,vs,y,rfl,rfl,h1,by rw[hl];exact hy,?_⟩;have r3:=r2.take l.length;rw[List.take_left'  rfl,show vs.take l.length=vs.dropLast by rw[List.dropLast_eq_take,hl];rfl]at r3;obtain⟨E,O⟩:=NV o1 hG r3;exact⟨d,_,e1.trans E,O,ry.same E.hid,q⟩⟩
theorem RC{q:Bool}(h:PX X ρ G e (.fn p))(hG:G p=some (.lst l))(hq:q=!l.isEmpty)(he:∀whole,isTrue e X.env whole=(do let v <-whole;standAt e.pos;holding [v] (truthy v)):=by intro _;rfl):PXT X ρ G e q:=Vo (PC Av he) fun σ H S=>⟨ρ,G,_,h,S,fun x H1 ⟨_,_,e1,o1,r1,q1,BZ⟩=>by
  subst q1;subst BZ;cases (show x=V.ref p from r1);obtain⟨vs,h1,r2⟩:=o1 p _ hG;refine⟨q,.inl ⟨vs,SqL.of h1,?_⟩,_,e1,o1,rfl,rfl⟩
  have:=r2.length
  subst hq;cases l<;>cases vs<;>simp_all⟩
theorem OW{tg:Expr}{f:Dat->Rho->Option Rho}(hg:PGD X tg f)(h:WE X ρ G e fun d G'=>∃ρ',f d ρ=some ρ'/\WSs X ρ' G' rest D)(hs:swapsWithSole [tg] e pos.line X.env=pure false:=by rfl)(hw:swappedStores [tg] e X.env=pure none:=by rfl)(h1:(assignEach [tg] X.env).map (·.2)=[assign tg X.env]:=by rfl):WSs X ρ G (.Assign [tg] e pos::rest) D:=BY fun AD s σ H I S=>by
 refine wpAny_Assign_stores (thn (h AD s σ H I S) fun v s1 ⟨x,H1,I1,r1,_,_,e1,o1,rx,ρ',hf,q⟩=>?_) hs hw;rw[h1];exact thn (hg AD s1 σ H1 x v ρ ρ' _ _ I1 r1 (S.ext e1 o1) rx hf) fun _ s2 ⟨σ2,H2,I2,e2,S2⟩=>⟨σ2,H2,I2,ρ',_,e1.trans e2,S2,q⟩
theorem OM:Bi X (.builtin "len") (fun xs H Q=>∃p ys,xs=[.ref p]/\H p=some (EN p ys)/\Q (.int ys.length) H):=by
 intro AD s σ H xs us Q I r h;obtain⟨p,ys,rfl,hp,q⟩:=h;obtain⟨u,rfl,rx⟩:=Fp r;cases rx;obtain⟨⟨h1,h2,h3,o,es,ep,h4,h5,h6,h7⟩,_,_⟩:=(show ObjOk X.prog X.w H s.heap p (.ext (NT p ys))from I.hok p _ hp);have hsz:es.size=ys.length:=by rw[<-Array.length_toList,h7,List.length_map]
 have hm:MeetsIn X.prog X.w (Builtin.«dict.__len__» ⟨[.ref p],[]⟩) (fun _ R s'=>s'.heap.get? p=some o/\R (.ok (.ret (.int ys.length s'.toks))) { s' with toks:=s'.toks+1 }):=
  .of_wp fun A R s' ⟨ho,h⟩=>by
   show wpAny _ _ (dictSize p >>= _) _ _ s';unfold dictSize;refine wpAny_bind (wpAny_bind (wpAny_dictEntries ho h6 (wpAny_pure ?_)));show wpAny _ _ (Builtin.Dict.pendingCount p >>= _) _ _ s';refine wpAny_bind (wpAny_pendingCount_other h1 ?_);refine wpAny_ret_mkInt ?_;rw[Nat.add_zero,hsz];exact h
 have ht:s.TypeIs (.ref p) "dict":=⟨o,h4,h5.1⟩;have hl:=KP;refine Calls.call_function_entry kind_len plain_len entry_len (args_len1 _) ?_;unfold Builtin.«len»;refine wpAny_bind (m:=oneArg "len" _) (wpAny_pure ?_);refine wpAny_bind (m:=callSpecial? (.ref p) (Str.ofString "__len__")) (wpAny_callSpecial?_slot (name:=Str.ofString "__len__") ht F.slot_dict_len
  (call_meetsIn F.slot_dict_len ht F.entry_dict_len (F.args_dict_len_1 _) hm ⟨h4,?_⟩))
 show wpAny _ _ _ _ _ { s with toks:=s.toks+1 };refine wpAny_bind (wpAny_holding (wpAny_pure ?_));refine wpAny_bind (wpAny_letGo ?_);show wpAny _ _ (if ((ys.length:Nat):Int)<0 then _ else _) _ _ _;rw[if_neg (by lia)];show wpAny _ _ (if ((ys.length:Nat):Int)≥2 ^ 63 then _ else _) _ _ _;rw[if_neg (by lia)];exact wpAny_bind (wpAny_mkInt (wpAny_pure ⟨_,rfl,.int ys.length,H,I.tok _,⟨_,rfl⟩,q⟩))
theorem MV{pp:Pos}{Q:Dat->Gs->Prop}(hm:X.mg "len"=none)(ha:WE X ρ G a fun d G'=>∃p Ad,d=.fn p/\G' p=some (.dct Ad)/\Q (.int Ad.length) G')(hg:Gl X "len":=by rfl)(he:starEach [a] X.env=(false,eval a X.env)::starEach [] X.env:=by rfl):WE X ρ G (.Call (.Name "len" pp) [a] [] pos) Q:=Bb (D0 OM hg hm PySem.boot_len (A7 Av CW he) (by decide) (by decide) he rfl) fun σ H S=>⟨ρ,G,_,ha,S,fun x H1 ⟨_,G1,e1,o1,r1,p,Ad,q1,hG,q⟩=>by
  subst q1;cases (show x=V.ref p from r1);obtain⟨xs,h1,r2⟩:=o1 p _ hG;refine⟨p,xs,rfl,h1,.int Ad.length,G1,e1,o1,?_,q⟩;rw[Rep,r2.length]⟩
theorem Y3{pp:Pos}(hm:X.mg "len"=none)(ha:PX X ρ G a (.fn p))(hG:G p=some (.dct Ad))(hg:Gl X "len":=by rfl)(he:starEach [a] X.env=(false,eval a X.env)::starEach [] X.env:=by rfl):PX X ρ G (.Call (.Name "len" pp) [a] [] pos) (.int Ad.length):=MV hm (PX.we ha ⟨p,Ad,rfl,hG,rfl,rfl⟩) hg he
structure DfA (P:Program) (w:World) (K:PySem.W.Frag) (mg:Str->Option Value) (base:Heap) (f:Addr) (ps:List Str) (k:Nat) (S:SpD):Prop where
 ex:∃fd,FnOk P w K mg base CX0 k f fd ps (Al K S)/\PySem.W.keepIn K (.ref f)=true/\Binds K fd ps []
theorem VC{S:SpD}{kk:Nat}{ps:List Str}{x:Str}{pp:Pos}{f:Addr}{Q:Dat->Gs->Prop}(hx:PX X ρ G (.Name x pp) (.fn f))(F:DfA X.prog X.w X.K X.mg X.base f ps kk S)(hr:Room kk X.A)(ha:PXs X ρ G (e::es) ds)(hS:S ds G Q)(he:starEach (e::es) X.env=(false,eval e X.env)::starEach es X.env:=by rfl)(hpl:(backTo pos (starEach es X.env)).any (·.1)=false:=by rfl):WE X ρ G (.Call (.Name x pp) (e::es) [] pos) Q:=by obtain⟨fd,F,hk,hb⟩:=F.ex;intro AD s σ H I S0;refine wpAny_Call_Name_kw (thn (hx AD s σ H I S0) fun v s1 ⟨y,H1,I1,r1,_,_,e1,o1,rx,q1,BZ⟩=>?_);subst q1;subst BZ;cases (show y=V.ref f from rx);cases r1;refine PySem.W.callWith_K (h₀:=X.base) I1.ok.mod.kin hk (thn (ha pos AD s1 σ H1 I1 (S0.ext e1 o1)) fun us s2 ⟨vs,H2,I2,r,_,_,e2,o2,r2,q2,G6⟩=>⟨I2.kIn,?_⟩) he hpl;subst q2;subst G6;exact U7 F hr hb .nil Uy I2 r ⟨_,_,Q,o2,by rw[List.append_nil];exact r2,hS,fun v H' d G' e' o' r' q'=>⟨d,G',(e1.trans e2).trans e',o',r',q'⟩⟩
theorem Zz{x:Str}{f:Addr}(hm:X.mg x=some (.ref f))(hg:Gl X x:=by rfl)(hd:(x==("__debug__":Str))=false:=by decide):PX X ρ G (.Name x pos) (.fn f):=Bb (RM (v:=.ref f) hg hm rfl hd) fun σ H S=>Ba S.own rfl
theorem aP{Q:Dat->Gs->Prop}(hu:X.A.units+9<cLine)(ha:∀p,G p=none->PX X ρ (put G p (.dct [])) a k)(hb:∀p,G p=none->PX X ρ (put G p (.dct [])) b d)(hk:B4 6 k=true)(hr:∃l,k=.tup l)(h:∀p,G p=none->Q (.fn p) (put G p (.dct [(k,d)]))):WE X ρ G (.Dict [some a] [b] pos) Q:=fun AD s σ H I S=>by
 have hp:H s.heap.objs.size=none:=I.hok.fresh (Nat.le_refl _);have i5:=S.own.free hp;obtain⟨E0,O0⟩:=J4 (X:=X) S.own hp;have I0:Inv X AD σ (upd H s.heap.objs.size (EN s.heap.objs.size [])) { s with heap:=s.heap.push { cls:=.type "dict",data:=.dict #[] } }:=
  I.laid (a:=s.heap.objs.size) (o:=EN s.heap.objs.size []) (t':=s.toks) (fun _ _ q=>Heap.get?_push_of_some _ q) (Nat.le_refl _)
   (Kb ⟨beq_eq_false_iff_ne.mpr (Ne.symm (Nat.ne_of_lt (Inv.big I))),Nat.zero_le _,List.nodup_nil,_,#[],0,Heap.get?_push_size _ rfl,⟨rfl,rfl,rfl⟩,rfl,rfl⟩)
 refine wpAny_Dict_any rfl rfl (by simp) (show 1<=15 by decide) ?_;show wpAny _ _ (evalPairs [(eval a X.env,do let x <-eval b X.env;standAt pos;pure x)]) _ _ _;refine evalPairs_cons (thn (ha _ i5 AD _ σ _ I0 (S.ext E0 O0)) fun kv s1 ⟨x,H1,I1,rx,_,_,e1,o1,r1,q1,BZ⟩=>?_);subst q1;subst BZ;refine wpAny_bind (thn (hb _ i5 AD s1 σ H1 I1 (S.ext (E0.trans e1) o1)) fun vv s2 ⟨y,H2,I2,ry,_,_,e2,o2,r2,q2,G6⟩=>?_);subst q2;subst G6;refine wpAny_bind (wpAny_standAt (wpAny_pure (evalPairs_nil ?_)));obtain⟨l,rfl⟩:=hr;have Uc:=(r1.same e2.hid).same AJ;have hx:∃t,x=V.ref t:=by rw[Rep]at Uc;obtain⟨t,_,e,_⟩:=Uc;exact⟨t,e⟩
 obtain⟨t,rfl⟩:=hx;cases rx;obtain⟨xs,h3,r3⟩:=o2 s.heap.objs.size _ AI;obtain⟨z1,z2,dd⟩:=HV I2 h3 (r3.same AJ);have rn:=DRep.put hk (r1.same e2.hid) ry r2 r3;unfold storeAll;rw[List.forIn_cons];refine wpAny_bind (wpAny_bind (wpAny_dictSet_heap (hsz:=z2) (knd:=A8 X.prog X.w) (show X.A.units+6<cLine by lia) (Ig I2 hk Uc) dd fun h' dU JM=>wpAny_pure ?_));show wpAny _ _ (forIn [] PUnit.unit _) _ _ _;rw[List.forIn_nil];refine wpAny_pure ?_;obtain⟨E,O⟩:=MU (X:=X) o2 AI rn;obtain⟨o',GU,TR,g1,g2,g3,g4,_,g5⟩:=dU;refine⟨.ref s.heap.objs.size,_,I2.write (x:=s.heap.objs.size) (e:=s.heap.objs.size) (t':=s2.toks+HS (.tup l)) (by rw[h3];exact True.intro) (.inl rfl) (fun b o hb z=>(JM.2 b hb).trans z) ⟨o',g1⟩ (Kb ⟨z1,?_,g5,o',GU,TR,g1,g2,g3,g4⟩),rfl,?_⟩
 ·refine Nat.le_trans (Nat.le_of_eq rn.length) (Nat.le_trans (Ft _ _ _) ?_);exact(by decide:1<=sizeLine)
 ·rw[A3]at E O;exact⟨.fn s.heap.objs.size,_,E0.trans (e1.trans (e2.trans E)),O,rfl,h _ i5⟩
end
def tyS:Dat->Option String
 |.non=>some "NoneType"
 |.bl _=>some "bool"
 |.int _=>some "int"
 |.str _=>some "str"
 |.fn _=>none
 |.scr _=>some "list"
 |.tup _=>some "tuple"
 |.lst _=>some "list"
def isS(t c:String):Bool:=t==c||(t=="bool"&&c=="int")
theorem bR{K:PySem.W.Frag}(t c:String)(ht:t∈["NoneType","bool","int","str","tuple","list"])(hc:c∈["bool","int","str","tuple","list"]):PySem.W.kitOne K (.type t) (.type c)=some (isS t c):=by simp only[List.mem_cons,List.not_mem_nil,or_false]at ht hc;rcases ht with rfl|rfl|rfl|rfl|rfl|rfl<;>rcases hc with rfl|rfl|rfl|rfl|rfl<;>rfl
section
variable {X:Cx}{ρ:Rho}{G:Gs}{e a b c:Expr}{d:Dat}{pos:Pos}
theorem cZ{AD:List (Addr×Obj)}{σ:St}{H:Hp}{s:Shared}{A:Around}{E:Value->Shared->Prop}{Q:Value->Shared->Prop}{cl:Value}{q:Bool}{v:V}{u:Value}{t:String}(I:Inv X AD σ H s)(ru:RelV v u)(r:Rep X.K H d v)(ht:tyS d=some t)(ek:PySem.W.kitOne X.K (.type t) cl=some q)(h:∀tk,Q (.bool q) { s with toks:=tk }):wpAny (model X.prog X.w) A (call (.builtin "isinstance") [u,cl]) Q E s:=by
 cases d with
 |fn a=>cases ht
 |non=>cases ht;rw[Rep]at r;subst r;exact Fw I ru (.non) ek h
 |bl b=>cases ht;rw[Rep]at r;subst r;exact Fw I ru (.bl b) ek h
 |int b=>cases ht;rw[Rep]at r;subst r;exact Fw I ru (.int b) ek h
 |str b=>cases ht;rw[Rep]at r;subst r;exact Fw I ru (.str b) ek h
 |scr ns=>
  cases ht;rw[Rep]at r;obtain⟨a,rfl,hq⟩:=r;cases ru;obtain⟨AO,r',pl,hz⟩:=I.list hq;obtain⟨o,h1,h2,_⟩:=pl.isList;exact PySem.W.kia_one PySem.W.kitx_list I.kIn ⟨_,h1,h2⟩ ek (fun z=>nomatch z) h
 |tup l=>
  cases ht;rw[Rep]at r;obtain⟨a,vs,rfl,hq,_⟩:=r;cases ru;obtain⟨AO,r',pl,hz⟩:=I.tuple hq;obtain⟨o,h1,h2,_⟩:=pl;exact PySem.W.kia_one PySem.W.kitx_tuple I.kIn ⟨_,h1,h2⟩ ek (fun z=>nomatch z) h
 |lst l=>
  cases ht;rw[Rep]at r;obtain⟨a,vs,rfl,hq,_⟩:=r;cases ru;obtain⟨AO,r',pl,hz⟩:=I.list (SqL.of hq);obtain⟨o,h1,h2,_⟩:=pl.isList;exact PySem.W.kia_one PySem.W.kitx_list I.kIn ⟨_,h1,h2⟩ ek (fun z=>nomatch z) h
theorem VF{d:Dat}{t:String}{T:String}(ht:tyS d=some t)(hT:T∈["bool","int","str","tuple","list"]):Bi X (.builtin "isinstance") (fun xs H Q=>∃v,xs=[v,.ty T]/\Rep X.K H d v/\Q (.bl (isS t T)) H):=by intro AD s σ H xs us Q I r h;obtain⟨v,rfl,rd,q⟩:=h;obtain⟨u,w',rfl,ru,YC⟩:=HL r;cases (show w'=Value.type T from YC);refine cZ I ru rd ht (bR t T ?_ hT) fun tk=>⟨.bl _,H,I.tok _,rfl,q⟩;cases d<;>simp only[tyS,Option.some.injEq,reduceCtorEq]at ht<;>subst ht<;>decide
theorem Gz{t:String}{T:Str}{T':String}{pp p2:Pos}(hm:X.mg "isinstance"=none)(hT:X.mg T=none)(ha:PX X ρ G a d)(ht:tyS d=some t:=by rfl)(hb:bootBuiltins T=some (.type T'):=by decide +kernel)(pG:T'∈["bool","int","str","tuple","list"]:=by decide)(hg:Gl X "isinstance":=by rfl)(fc:Gl X T:=by rfl)(hn:T≠"__name__":=by decide)(HJ:(T==("__debug__":Str))=false:=by decide)(he:starEach [a,.Name T p2] X.env=(false,eval a X.env)::starEach [.Name T p2] X.env:=by rfl):PX X ρ G (.Call (.Name "isinstance" pp) [a,.Name T p2] [] pos) (.bl (isS t T')):=Bb (D0 (VF ht pG) hg hm (by decide +kernel) (A7 Av (A7 (RP (v:=.ty T') fc hT hb rfl hn HJ) CW) he) (by decide) (by decide) he rfl) fun σ H S=>⟨ρ,G,_,ha,S,fun x H1 ⟨_,_,e1,o1,r1,q1,BZ⟩=>by
  subst q1;subst BZ;exact⟨x,rfl,r1.same AJ,Po.trans e1 (Ba o1 rfl)⟩⟩
end
def Kn(G G':Gs):Prop:=∀q o,G q=some o->G' q=some o
theorem VI{G:Gs}{p:Addr}{o:OD}(h:G p=none):Kn G (put G p o):=fun q u e=>by
 by_cases hq:q=p
 ·subst hq;rw[h]at e;cases e
 ·rw[Ak hq];exact e
section
variable {X:Cx}{ρ:Rho}{G:Gs}{elt AL Ac c:Expr}{ifs:List Expr}{scope:Scope}{Au pos pos':Pos}{Nc:List Str}{caps:List (Option Nat)}{l:List Dat}{f:Dat->Rho->Option Rho}{D:DE}{rest:List Stmt}
theorem VV{tg it:Expr}{Pv:Nat->List Dat->Gs->Prop}(hi:WI X ρ G tg it fun l' G'=>l'=l/\G'=G)(h0:Pv 0 [] G):WI X ρ G tg it fun l' G'=>l'=l/\Pv 0 [] G':=fun AD s σ H I S=>
 thn (hi AD s σ H I S) fun v s1 h1=>thn h1 fun dQ s2 hh=>by
  obtain⟨it,fp,tn,J,H',e,I',T,st,fk,l',G',e',o',wk,q1,q2⟩:=hh;exact⟨it,fp,tn,J,H',e,I',T,st,fk,l',G',e',o',wk,q1,by rw[q2];exact h0⟩
theorem OS(g:Dat->Dat)(hz:l.length<=5000)(CI:∀C s' H' fp G' d,d∈l->Kn G G'->∃ρ',f d (A6 caps ρ)=some ρ'/\PX (AW X Nc scope C s' H' fp) ρ' G' elt (g d)) :
  ∀C s' H' fp Dd i d Ae G',l[i]?=some d->(G'=G/\Ae=(l.take i).map g)->G' Dd=none->∃ρ',f d (A6 caps ρ)=some ρ' ∧
   Iq (AW X Nc scope C s' H' fp) ρ' (put G' Dd (.lst Ae)) (KG elt (AW X Nc scope C s' H' fp).env (.ref Dd)) fun P8=>∃Dk G4,Dk.length<=Ae.length+1/\G4 Dd=none/\P8=put G4 Dd (.lst Dk)/\(G4=G/\Dk=(l.take (i+1)).map g):=by
 rintro C s' H' fp Dd i d Ae G' hd ⟨rfl,rfl⟩ hD;obtain⟨ρ',h1,h2⟩:=CI C s' H' fp (put G' Dd (.lst ((l.take i).map g))) d (List.mem_of_getElem? hd) (VI hD);refine⟨ρ',h1,Ee rfl AI ?_ (PX.we h2 ⟨AI,_,G',?_,hD,A3,rfl,?_⟩)⟩
 ·have:((l.take i).map g).length<=l.length:=by rw[List.length_map,List.length_take];lia
  exact Nat.lt_of_le_of_lt (Nat.le_trans this hz) (by decide)
 ·simp
 ·rw[List.take_add_one,hd];simp
theorem V6(p:Dat->Bool)(g:Dat->Dat)(hz:l.length<=5000)(CI:∀C s' H' fp G' d,d∈l->Kn G G'->∃ρ',f d (A6 caps ρ)=some ρ'/\PXT (AW X Nc scope C s' H' fp) ρ' G' c (p d)/\(p d=true->PX (AW X Nc scope C s' H' fp) ρ' G' elt (g d))) :
  ∀C s' H' fp Dd i d Ae G',l[i]?=some d->(G'=G/\Ae=((l.take i).filter p).map g)->G' Dd=none->∃ρ',f d (A6 caps ρ)=some ρ' ∧
   Iq (AW X Nc scope C s' H' fp) ρ' (put G' Dd (.lst Ae)) (O5 c elt (AW X Nc scope C s' H' fp).env (.ref Dd)) fun P8=>∃Dk G4,Dk.length<=Ae.length+1/\G4 Dd=none/\P8=put G4 Dd (.lst Dk)/\(G4=G/\Dk=((l.take (i+1)).filter p).map g):=by
 rintro C s' H' fp Dd i d Ae G' hd ⟨rfl,rfl⟩ hD;obtain⟨ρ',h1,h2,h3⟩:=CI C s' H' fp (put G' Dd (.lst (((l.take i).filter p).map g))) d (List.mem_of_getElem? hd) (VI hD);have et:(l.take (i+1)).filter p=(l.take i).filter p++(if p d=true then[d]else[]):=by
  rw[List.take_add_one,hd,List.filter_append];simp only[Option.toList_some,List.filter_cons,List.filter_nil]
 refine⟨ρ',h1,QQ rfl (DO h2 ⟨fun hp=>?_,fun hp=>?_⟩)⟩
 ·refine Ee rfl AI ?_ (PX.we (h3 hp) ⟨AI,_,G',?_,hD,A3,rfl,?_⟩)
  ·have:(((l.take i).filter p).map g).length<=l.length:=by
    rw[List.length_map];exact Nat.le_trans (List.length_filter_le _ _) (by rw[List.length_take];lia)
   exact Nat.lt_of_le_of_lt (Nat.le_trans this hz) (by decide)
  ·simp
  ·rw[et,if_pos hp];simp
 ·refine⟨_,G',?_,hD,rfl,rfl,?_⟩
  ·simp
  ·rw[et,if_neg (by rw[hp];decide)];simp
theorem Er(g:Dat->Dat)(Sc:CompSc X scope Nc caps)(BI:X.calm=true)(hi:WI X ρ G AL Ac fun l' G'=>l'=l/\G'=G)(hg:∀C s' H' fp,PGD (AW X Nc scope C s' H' fp) AL f)(hle:∀d ρ',f d (A6 caps ρ)=some ρ'->ρ'.length=(A6 caps ρ).length/\∀(j:Nat) e,(A6 caps ρ)[j]?=some (some e)->ρ'[j]?=some (some e))(hz:l.length<=5000)(CI:∀C s' H' fp G' d,d∈l->Kn G G'->∃ρ',f d (A6 caps ρ)=some ρ'/\PX (AW X Nc scope C s' H' fp) ρ' G' elt (g d))(OZ:∀x,foldedSetIterable Ac X.env x=pure x:=by intro _;rfl) :
  PX X ρ G (.ListComp elt [⟨AL,Ac,[],0⟩] scope Au) (.lst (l.map g)):=
 NL (Pv:=fun i Ae G'=>G'=G/\Ae=(l.take i).map g) (IE elt AL Ac scope Au) Sc BI (VV (Pv:=fun i Ae G'=>G'=G/\Ae=(l.take i).map g) hi ⟨rfl,by simp⟩) hg hle (Nat.le_trans hz (by decide)) (OS g hz CI) (by
  rintro Ae G' ⟨rfl,rfl⟩;rw[List.take_length];exact⟨rfl,rfl⟩) OZ
theorem Ff(p:Dat->Bool)(g:Dat->Dat)(Sc:CompSc X scope Nc caps)(BI:X.calm=true)(hi:WI X ρ G AL Ac fun l' G'=>l'=l/\G'=G)(hg:∀C s' H' fp,PGD (AW X Nc scope C s' H' fp) AL f)(hle:∀d ρ',f d (A6 caps ρ)=some ρ'->ρ'.length=(A6 caps ρ).length/\∀(j:Nat) e,(A6 caps ρ)[j]?=some (some e)->ρ'[j]?=some (some e))(hz:l.length<=5000)(CI:∀C s' H' fp G' d,d∈l->Kn G G'->∃ρ',f d (A6 caps ρ)=some ρ'/\PXT (AW X Nc scope C s' H' fp) ρ' G' c (p d)/\(p d=true->PX (AW X Nc scope C s' H' fp) ρ' G' elt (g d)))(OZ:∀x,foldedSetIterable Ac X.env x=pure x:=by intro _;rfl) :
  PX X ρ G (.ListComp elt [⟨AL,Ac,[c],0⟩] scope Au) (.lst ((l.filter p).map g)):=
 NL (Pv:=fun i Ae G'=>G'=G/\Ae=((l.take i).filter p).map g) (XN elt AL Ac c scope Au) Sc BI (VV (Pv:=fun i Ae G'=>G'=G/\Ae=((l.take i).filter p).map g) hi ⟨rfl,by simp⟩) hg hle (Nat.le_trans hz (by decide)) (V6 p g hz CI) (by
  rintro Ae G' ⟨rfl,rfl⟩;rw[List.take_length];exact⟨rfl,rfl⟩) OZ
theorem KL(n:Nat){x:Str}(g:Dat->Dat)(hN:X.N.Nodup)(Sc:CompSc X scope Nc caps)(BI:X.calm=true)(hi:WI X ρ G AL Ac fun l' G'=>l'=l/\G'=G)(hg:∀C s' H' fp,PGD (AW X Nc scope C s' H' fp) AL f)(hle:∀d ρ',f d (A6 caps ρ)=some ρ'->ρ'.length=(A6 caps ρ).length/\∀(j:Nat) e,(A6 caps ρ)[j]?=some (some e)->ρ'[j]?=some (some e))(hz:l.length<=5000)(CI:∀C s' H' fp G' d,d∈l->Kn G G'->∃ρ',f d (A6 caps ρ)=some ρ'/\PX (AW X Nc scope C s' H' fp) ρ' G' elt (g d))(q:WSs X (ρ.set n (some (.lst (l.map g)))) G rest D)(hn:X.N[n]?=some x:=by rfl)(hx:X.env.kindOf x=some .local:=by rfl)(fo:swapsWith (.ListComp elt [⟨AL,Ac,[],0⟩] scope Au) (some (.Name x pos')) pos.line X.env=pure true:=by rfl)(OZ:∀x,foldedSetIterable Ac X.env x=pure x:=by intro _;rfl):WSs X ρ G (.Assign [.Name x pos'] (.ListComp elt [⟨AL,Ac,[],0⟩] scope Au) pos::rest) D:=Oi n (fun i Ae G'=>G'=G/\Ae=(l.take i).map g) hN (IE elt AL Ac scope Au) Sc BI (VV (Pv:=fun i Ae G'=>G'=G/\Ae=(l.take i).map g) hi ⟨rfl,by simp⟩) hg hle (Nat.le_trans hz (by decide)) (OS g hz CI) (by
  rintro Ae G' ⟨rfl,rfl⟩;rw[List.take_length];exact q) hn hx fo OZ
end
def AZ(p q:Sq):Prop:=p.1<q.1\/(p.1=q.1/\p.2<q.2)
instance (p q:Sq):Decidable (AZ p q):=by unfold AZ;infer_instance
theorem A4(p:Sq):¬AZ p p:=by unfold AZ;lia
theorem CN{p q r:Sq}(h:AZ p q)(h':AZ q r):AZ p r:=by unfold AZ at *;lia
theorem Vk(p q:Sq):AZ p q\/p=q\/AZ q p:=by obtain⟨a,b⟩:=p;obtain⟨c,d⟩:=q;unfold AZ;simp only[Prod.mk.injEq];lia
structure Good (F:List Sq):Prop where
 ne:F≠[]
 up:F.Pairwise AZ
 inn:∀p∈F,0<=p.1/\p.1<=7/\0<=p.2/\p.2<=7
 len:F.length<=24
theorem Good.nodup{F:List Sq}(h:Good F):F.Nodup:=h.up.imp fun {a b} IG e=>by subst e;exact A4 _ IG
def Kz(r w d e:Nat):List Sq:=(List.range r).flatMap fun i=>(List.range w).map fun j=>(((d+i:Nat):Int),((e+j:Nat):Int))
theorem Kc(r w d e:Nat):(Kz r w d e).length=r*w:=by
 unfold Kz
 induction r with
 |zero=>simp
 |succ r ih=>rw[List.range_succ,List.flatMap_append,List.length_append,ih];simp[Nat.succ_mul]
theorem Nt{r w d e:Nat}{p:Sq}:p∈Kz r w d e↔∃i j:Nat,i<r/\j<w/\p=(((d+i:Nat):Int),((e+j:Nat):Int)):=by
 unfold Kz;simp only[List.mem_flatMap,List.mem_map,List.mem_range];constructor
 ·rintro⟨i,hi,j,hj,rfl⟩;exact⟨i,j,hi,hj,rfl⟩
 ·rintro⟨i,j,hi,hj,rfl⟩;exact⟨i,hi,j,hj,rfl⟩
theorem Lc(i w d e:Nat):Kz (i+1) w d e=Kz i w d e++(List.range w).map fun j=>(((d+i:Nat):Int),((e+j:Nat):Int)):=by unfold Kz;rw[List.range_succ,List.flatMap_append];simp
theorem ZM(r w d e:Nat):(Kz r w d e).Pairwise AZ:=by
 induction r with
 |zero=>exact List.Pairwise.nil
 |succ r ih=>
  rw[Lc,List.pairwise_append];refine⟨ih,?_,fun p hp q hq=>?_⟩
  ·rw[List.pairwise_map];refine List.Pairwise.imp (fun {a b} h=>?_) List.pairwise_lt_range;exact .inr ⟨rfl,by show((e+a:Nat):Int)<((e+b:Nat):Int);lia⟩
  ·obtain⟨i,j,hi,hj,rfl⟩:=Nt.mp hp;obtain⟨j',_,rfl⟩:=List.mem_map.mp hq;exact .inl (by show((d+i:Nat):Int)<((d+r:Nat):Int);lia)
theorem Wq{r w d e:Nat}(h1:r*w<=24)(h2:d+r<=8)(h3:e+w<=8){F:List Sq}(hs:F.Sublist (Kz r w d e))(Bq:F≠[]):Good F:=by
 refine⟨Bq,(ZM r w d e).sublist hs,fun p hp=>?_,?_⟩
 ·obtain⟨i,j,hi,hj,rfl⟩:=Nt.mp (hs.subset hp);show 0<=((d+i:Nat):Int)/\((d+i:Nat):Int)<=7/\0<=((e+j:Nat):Int)/\((e+j:Nat):Int)<=7;lia
 ·exact Nat.le_trans hs.length_le (by rw[Kc];exact h1)
def NG(r w:Nat):Prop:=(1<=r/\r<=4/\1<=w/\w<=5)\/(r=2/\w=12)\/(r=3/\w=8)\/(r=8/\w=3)\/(r=6/\w=4)
theorem TY{r w:Nat}(h:NG r w):r*min w 8<=24/\0<r*min w 8:=by
 rcases h with⟨h1,h2,h3,h4⟩|⟨rfl,rfl⟩|⟨rfl,rfl⟩|⟨rfl,rfl⟩|⟨rfl,rfl⟩
 ·have:min w 8=w:=by lia
  rw[this];exact⟨Nat.le_trans (Nat.mul_le_mul h2 h4) (by decide),Nat.mul_pos h1 h3⟩
 all_goals decide
def Th(c p m:Int):Int:=c*48271%p%m
theorem C5(c p:Int)(m:Nat)(hm:0<m):∃r:Nat,r<m/\Th c p (m:Int)=(r:Int):=by
 refine⟨(Th c p m).toNat,?_,?_⟩
 ·have:=Int.emod_lt_of_pos (c*48271%p) (show(0:Int)<m by lia)
  have:=Int.emod_nonneg (c*48271%p) (show(m:Int)≠0 by lia)
  unfold Th;lia
 ·have:=Int.emod_nonneg (c*48271%p) (show(m:Int)≠0 by lia)
  unfold Th;lia
theorem J7(L:List Sq)(p:Dat->Bool):((L.map sq).filter p).map id=(L.filter fun q=>p (sq q)).map sq:=by rw[List.map_id,List.filter_map];rfl
theorem sz{n:Nat}(h:n<=5000):n<=sizeLine:=Nat.le_trans h (by decide)
theorem sz1{n:Nat}(h:n<=5000):n<sizeLine:=Nat.lt_of_le_of_lt h (by decide)
theorem B9(i:Int)(n:Nat):(BC i n).length=n:=by simp[BC]
theorem CS{lo:Int}{n i:Nat}{d:Dat}(h:(BC lo n)[i]?=some d):i<n/\d=.int (lo+(i:Nat)):=by
 have Ar:i<n:=by
  have:=(List.getElem?_eq_some_iff.mp h).1
  simpa[BC]using this
 have:(BC lo n)[i]?=some (.int (lo+i)):=by simp[BC,Ar]
 rw[this]at h;cases h;exact⟨Ar,rfl⟩
theorem Qp{lo:Int}{n:Nat}{d:Dat}(h:d∈BC lo n):∃i:Nat,i<n/\d=.int (lo+(i:Nat)):=by obtain⟨i,hi⟩:=List.mem_iff_getElem?.mp h;exact⟨i,CS hi⟩
def MR:SpD:=fun ds G R=>∃(ns:List Int)(k:Nat),ds=[.scr ns,.int k]/\R (.int (CB ns k)) G
def Ut:SpD:=fun ds G R=>∃(c p m:Int),ds=[.int c,.int p,.int m]/\0<p/\0<m/\R (.int (Th c p m)) G
def SY:SpD:=fun ds G R=>∃(ns:List Int)(k:Nat),ds=[.scr ns,.int k]/\∀F,Good F->R (fl F) G
end TF
namespace TF
section
theorem BE{α:Type}[DecidableEq α]:∀{l m:List α},l.Nodup->(∀x∈l,x∈m)->l.length<=m.length
 |[],_,_,_=>Nat.zero_le _
 |a::r,m,hn,hs=>by
  obtain⟨h1,h2⟩:=List.nodup_cons.mp hn;have ha:=hs a (List.mem_cons_self ..);have:r.length<=(m.erase a).length:=BE h2 fun x hx=>by
   have Bq:x≠a:=by rintro rfl;exact h1 hx
   exact(List.mem_erase_of_ne Bq).mpr (hs x (List.mem_cons_of_mem _ hx))
  rw[List.length_erase_of_mem ha]at this;have hp:0<m.length:=List.length_pos_of_mem ha;rw[List.length_cons];lia
theorem MD{α:Type}[DecidableEq α]{l m:List α}(h1:l.Nodup)(h2:m.Nodup)(h:∀x,x∈l↔x∈m):l.length=m.length:=Nat.le_antisymm (BE h1 fun x hx=>(h x).mp hx) (BE h2 fun x hx=>(h x).mpr hx)
theorem Sx{α:Type}[DecidableEq α]{l m:List α}(h1:l.Nodup)(hs:∀x∈l,x∈m)(hl:m.length<=l.length)(hm:m.Nodup):∀x∈m,x∈l:=by intro x hx;refine Classical.byContradiction fun hn=>?_;have:l.length<=(m.erase x).length:=BE h1 fun y hy=>(List.mem_erase_of_ne (by rintro rfl;exact hn hy)).mpr (hs y hy);rw[List.length_erase_of_mem hx]at this;have hp:0<m.length:=List.length_pos_of_mem hx;lia
inductive Con (R:Sq->Sq->Prop) (g:Sq->Prop) (s:Sq):Sq->Prop
 |base:Con R g s s
 |step {x y:Sq}:Con R g s x->R x y->g y->Con R g s y
section
variable {R R':Sq->Sq->Prop}{g g':Sq->Prop}{s x y:Sq}
theorem Con.trans(h:Con R g s x)(h':Con R g x y):Con R g s y:=by
 induction h' with
 |base=>exact h
 |step _ r gy ih=>exact .step ih r gy
theorem Con.mono(hR:∀x y,R x y->R' x y)(hg:∀x,g x->g' x)(h:Con R g s x):Con R' g' s x:=by
 induction h with
 |base=>exact .base
 |step _ r gy ih=>exact .step ih (hR _ _ r) (hg _ gy)
theorem Con.in(h:Con R g s x)(hs:g s):g x:=by
 cases h with
 |base=>exact hs
 |step _ _ gy=>exact gy
theorem Con.symm(hR:∀x y,R x y->R y x)(hs:g s)(h:Con R g s x):Con R g x s:=by
 induction h with
 |base=>exact .base
 |@step x y hx r gy ih=>exact Con.trans (.step .base (hR _ _ r) (hx.in hs)) ih
end
structure RL (R:Sq->Sq->Prop) (g:Sq->Prop) (s:Sq) (L:List Sq):Prop where
 nd:L.Nodup
 iff:∀x,x∈L↔Con R g s x
open Classical in
def card(R:Sq->Sq->Prop)(g:Sq->Prop)(s:Sq):Nat:=if h:∃L,RL R g s L then(Classical.choose h).length else 0
theorem RL.card{R:Sq->Sq->Prop}{g:Sq->Prop}{s:Sq}{L:List Sq}(h:RL R g s L):card R g s=L.length:=by have hx:∃L,RL R g s L:=⟨L,h⟩;unfold TF.card;rw[dif_pos hx];have h':=Classical.choose_spec hx;exact MD h'.nd h.nd fun x=>(h'.iff x).trans (h.iff x).symm
theorem RL.all{R:Sq->Sq->Prop}{g:Sq->Prop}{s:Sq}{L B:List Sq}(h:RL R g s L)(hB:B.Nodup)(hg:∀x,x∈B↔g x)(hs:g s):L.length<=B.length/\(L.length=B.length↔∀x,g x->Con R g s x):=by have sub:∀x∈L,x∈B:=fun x hx=>(hg x).mpr (((h.iff x).mp hx).in hs);have le:=BE h.nd sub;refine⟨le,fun e x hx=>(h.iff x).mp (Sx h.nd sub (by lia) hB x ((hg x).mpr hx)),fun a=>?_⟩;exact Nat.le_antisymm le (BE hB fun x hx=>(h.iff x).mpr (a x ((hg x).mp hx)))
def nbM(q:Sq):List Sq:=[(q.1-1,q.2),(q.1,q.2-1),(q.1,q.2+1),(q.1+1,q.2)]
def cnM(q:Sq):List Sq:=[(q.1-1,q.2-1),(q.1-1,q.2+1),(q.1+1,q.2-1),(q.1+1,q.2+1)]
def aaM(q:Sq):List Sq:=nbM q++cnM q
def n9(q:Sq):List Sq:=(List.range 9).map fun k=>(q.1+((k / 3:Nat):Int)-1,q.2+((k%3:Nat):Int)-1)
def Adj(p q:Sq):Prop:=p.1-1<=q.1/\q.1<=p.1+1/\p.2-1<=q.2/\q.2<=p.2+1
theorem Vj(p q:Sq)(h:Adj p q):Adj q p:=by unfold Adj at *;lia
theorem VB{p q:Sq}:q∈aaM p↔Adj p q/\q≠p:=by obtain⟨a,b⟩:=p;obtain⟨c,d⟩:=q;simp only[aaM,nbM,cnM,List.cons_append,List.nil_append,List.mem_cons,List.not_mem_nil,or_false,Prod.mk.injEq,Adj,ne_eq];omega
theorem QP{p q:Sq}:q∈n9 p↔Adj p q:=by
 unfold n9 Adj;rw[List.mem_map];constructor
 ·rintro⟨k,hk,rfl⟩
  have:=List.mem_range.mp hk
  dsimp only;omega
 ·intro h;refine⟨((q.1-p.1+1)*3+(q.2-p.2+1)).toNat,List.mem_range.mpr (by omega),Prod.ext ?_ ?_⟩<;>dsimp only<;>omega
theorem Wu{g:Sq->Prop}{s x:Sq}:Con (fun p q=>q∈aaM p) g s x↔Con Adj g s x:=by
 constructor
 ·exact Con.mono (fun x y h=>(VB.mp h).1) fun _ h=>h
 ·intro h
  induction h with
  |base=>exact .base
  |@step x y _ r gy ih=>
   by_cases e:y=x
   ·subst e;exact ih
   ·exact .step ih (VB.mpr ⟨r,e⟩) gy
theorem Zk{g:Sq->Prop}{s x:Sq}:Con (fun p q=>q∈n9 p) g s x↔Con Adj g s x:=⟨Con.mono (fun x y h=>QP.mp h) fun _ h=>h,Con.mono (fun x y h=>QP.mpr h) fun _ h=>h⟩
structure BB (F:List Sq) (r0 r1 c0 c1:Int):Prop where
 r0m:r0∈F.map (·.1)
 r0l:∀a∈F.map (·.1),r0<=a
 r1m:r1∈F.map (·.1)
 r1l:∀a∈F.map (·.1),a<=r1
 c0m:c0∈F.map (·.2)
 c0l:∀a∈F.map (·.2),c0<=a
 c1m:c1∈F.map (·.2)
 c1l:∀a∈F.map (·.2),a<=c1
theorem XC:∀(l:List Int),l≠[]->∃m∈l,∀a∈l,m<=a
 |[a],_=>⟨a,by simp,by simp⟩
 |a::b::r,_=>by
  obtain⟨m,h1,h2⟩:=XC (b::r) (by simp);by_cases h:a<=m
  ·exact⟨a,List.mem_cons_self ..,fun x hx=>by rcases List.mem_cons.mp hx with rfl|hx;exact Int.le_refl _;exact Int.le_trans h (h2 x hx)⟩
  ·exact⟨m,List.mem_cons_of_mem _ h1,fun x hx=>by rcases List.mem_cons.mp hx with rfl|hx;lia;exact h2 x hx⟩
theorem V7:∀(l:List Int),l≠[]->∃m∈l,∀a∈l,a<=m
 |[a],_=>⟨a,by simp,by simp⟩
 |a::b::r,_=>by
  obtain⟨m,h1,h2⟩:=V7 (b::r) (by simp);by_cases h:m<=a
  ·exact⟨a,List.mem_cons_self ..,fun x hx=>by rcases List.mem_cons.mp hx with rfl|hx;exact Int.le_refl _;exact Int.le_trans (h2 x hx) h⟩
  ·exact⟨m,List.mem_cons_of_mem _ h1,fun x hx=>by rcases List.mem_cons.mp hx with rfl|hx;lia;exact h2 x hx⟩
theorem kZ{F:List Sq}(h:F≠[]):∃r0 r1 c0 c1,BB F r0 r1 c0 c1:=by obtain⟨r0,a1,a2⟩:=XC (F.map (·.1)) (by simpa using h);obtain⟨r1,b1,b2⟩:=V7 (F.map (·.1)) (by simpa using h);obtain⟨c0,d1,d2⟩:=XC (F.map (·.2)) (by simpa using h);obtain⟨c1,e1,e2⟩:=V7 (F.map (·.2)) (by simpa using h);exact⟨r0,r1,c0,c1,a1,a2,b1,b2,d1,d2,e1,e2⟩
theorem BB.in{F:List Sq}{r0 r1 c0 c1:Int}(b:BB F r0 r1 c0 c1){p:Sq}(h:p∈F):r0<=p.1/\p.1<=r1/\c0<=p.2/\p.2<=c1:=⟨b.r0l _ (List.mem_map_of_mem h),b.r1l _ (List.mem_map_of_mem h),b.c0l _ (List.mem_map_of_mem h),b.c1l _ (List.mem_map_of_mem h)⟩
def DQ(a b:Int)(m n:Nat):List Sq:=(List.range m).flatMap fun i=>(List.range n).map fun j=>(a+(i:Nat),b+(j:Nat))
theorem Cd{a b:Int}{m n:Nat}{p:Sq}:p∈DQ a b m n↔a<=p.1/\p.1<a+m/\b<=p.2/\p.2<b+n:=by
 unfold DQ;simp only[List.mem_flatMap,List.mem_map,List.mem_range];constructor
 ·rintro⟨i,hi,j,hj,rfl⟩;show a<=a+(i:Int)/\a+(i:Int)<a+m/\b<=b+(j:Int)/\b+(j:Int)<b+n;lia
 ·rintro⟨h1,h2,h3,h4⟩;refine⟨(p.1-a).toNat,by lia,(p.2-b).toNat,by lia,?_⟩;obtain⟨x,y⟩:=p;simp only[Prod.mk.injEq]at *;lia
theorem Km(a b:Int)(m n:Nat):DQ a b (m+1) n=DQ a b m n++(List.range n).map fun j=>(a+(m:Nat),b+(j:Nat)):=by unfold DQ;rw[List.range_succ,List.flatMap_append];simp
theorem Ky(a b:Int)(m n:Nat):(DQ a b m n).Pairwise AZ:=by
 induction m with
 |zero=>exact List.Pairwise.nil
 |succ m ih=>
  rw[Km,List.pairwise_append];refine⟨ih,?_,fun p hp q hq=>?_⟩
  ·rw[List.pairwise_map];refine List.Pairwise.imp (fun {x y} h=>?_) List.pairwise_lt_range;exact .inr ⟨rfl,by show b+((x:Nat):Int)<b+((y:Nat):Int);lia⟩
  ·have:=(Cd.mp hp).2.1
   obtain⟨j',_,rfl⟩:=List.mem_map.mp hq;exact .inl (by show p.1<a+(m:Int);lia)
theorem CD{L:List Sq}(h:L.Pairwise AZ):L.Nodup:=h.imp fun {a b} IG e=>by subst e;exact A4 _ IG
theorem Hb(a b:Int)(m n:Nat):(DQ a b m n).length=m*n:=by
 induction m with
 |zero=>simp[DQ]
 |succ m ih=>rw[Km,List.length_append,ih];simp[Nat.succ_mul]
def DA(F:List Sq)(r0 r1 c0 c1:Int):List Sq:=(DQ (r0-1) (c0-1) (r1+2-(r0-1)).toNat (c1+2-(c0-1)).toNat).filter fun q=>!F.contains q
section
variable {F:List Sq}{r0 r1 c0 c1:Int}
def g1(F:List Sq)(r0 r1 c0 c1:Int)(p:Sq):Prop:=(r0-1<=p.1/\p.1<=r1+1/\c0-1<=p.2/\p.2<=c1+1)/\p∉F
def g2(F:List Sq)(p:Sq):Prop:=(-1<=p.1/\p.1<=8/\-1<=p.2/\p.2<=8)/\p∉F
theorem BB.le(b:BB F r0 r1 c0 c1):r0<=r1/\c0<=c1:=⟨b.r0l _ b.r1m,b.c0l _ b.c1m⟩
theorem Pd(b:BB F r0 r1 c0 c1)(p:Sq):p∈DA F r0 r1 c0 c1↔g1 F r0 r1 c0 c1 p:=by
 obtain⟨h1,h2⟩:=b.le;unfold DA g1;rw[List.mem_filter,Cd];simp only[Bool.not_eq_true',List.contains_eq_mem,decide_eq_false_iff_not];constructor
 ·rintro⟨h,h'⟩;exact⟨by lia,h'⟩
 ·rintro⟨h,h'⟩;exact⟨by lia,h'⟩
theorem Q6:(DA F r0 r1 c0 c1).Nodup:=CD ((Ky _ _ _ _).sublist List.filter_sublist)
def kap(r0 r1 c0 c1:Int)(p:Sq):Sq:=(max (r0-1) (min p.1 (r1+1)),max (c0-1) (min p.2 (c1+1)))
theorem QG(b:BB F r0 r1 c0 c1){p:Sq}(h:p∉F):g1 F r0 r1 c0 c1 (kap r0 r1 c0 c1 p):=by
 obtain⟨h1,h2⟩:=b.le;refine⟨?_,fun hk=>?_⟩
 ·simp only[kap];lia
 ·have:=b.in hk
  have e:kap r0 r1 c0 c1 p=p:=by
   obtain⟨x,y⟩:=p;simp only[kap,Prod.mk.injEq]at *;lia
  rw[e]at hk;exact h hk
theorem nQ{a b:Int}(h:a<=b)(x:Int):a<=max a (min x b)/\max a (min x b)<=b:=by lia
theorem Zu{a b x:Int}(h:a<=x)(h':x<=b):max a (min x b)=x:=by lia
theorem W7{a b x y:Int}(h:x-1<=y/\y<=x+1):max a (min x b)-1<=max a (min y b)/\max a (min y b)<=max a (min x b)+1:=by lia
def stI(a b x:Int):Int:=if x<a then x+1 else if b<x then x-1 else x
theorem Fm(a b x:Int):(x<a/\stI a b x=x+1)\/(a<=x/\b<x/\stI a b x=x-1)\/(a<=x/\x<=b/\stI a b x=x):=by
 unfold stI;by_cases h:x<a
 ·exact .inl ⟨h,if_pos h⟩
 ·rw[if_neg h];by_cases h':b<x
  ·exact .inr (.inl ⟨Int.not_lt.mp h,h',if_pos h'⟩)
  ·exact .inr (.inr ⟨Int.not_lt.mp h,Int.not_lt.mp h',if_neg h'⟩)
theorem aY{a b:Int}(h:a<=b)(x:Int):max a (min (stI a b x) b)=max a (min x b):=by rcases Fm a b x with⟨h1,e⟩|⟨h1,h2,e⟩|⟨h1,h2,e⟩<;>rw[e]<;>lia
theorem Vw(a b x:Int):stI a b x-1<=x/\x<=stI a b x+1:=by rcases Fm a b x with⟨h1,e⟩|⟨h1,h2,e⟩|⟨h1,h2,e⟩<;>rw[e]<;>lia
theorem RV{a b:Int}(h:a<=b)(x:Int):(stI a b x-max a (min x b)).natAbs<=(x-max a (min x b)).natAbs/\(max a (min x b)≠x->(stI a b x-max a (min x b)).natAbs+1<=(x-max a (min x b)).natAbs):=by rcases Fm a b x with⟨h1,e⟩|⟨h1,h2,e⟩|⟨h1,h2,e⟩<;>rw[e]<;>lia
theorem XM{a b lo hi x:Int}(h:lo<=x/\x<=hi)(h1:lo<=a)(h2:b<=hi)(IG:a<=b):lo<=stI a b x/\stI a b x<=hi:=by rcases Fm a b x with⟨h1,e⟩|⟨h1,h2,e⟩|⟨h1,h2,e⟩<;>rw[e]<;>lia
theorem aF{a b x:Int}(h:a+1<=stI a b x)(h':stI a b x<=b-1):max a (min x b)=x:=by rcases Fm a b x with⟨h1,e⟩|⟨h1,h2,e⟩|⟨h1,h2,e⟩<;>rw[e]at h h'<;>lia
theorem cy{p:Sq}(h:r0-1<=p.1/\p.1<=r1+1/\c0-1<=p.2/\p.2<=c1+1):kap r0 r1 c0 c1 p=p:=Prod.ext (Zu h.1 h.2.1) (Zu h.2.2.1 h.2.2.2)
theorem au{p:Sq}(h:kap r0 r1 c0 c1 p≠p):max (r0-1) (min p.1 (r1+1))≠p.1\/max (c0-1) (min p.2 (c1+1))≠p.2:=by refine Classical.byContradiction fun hn=>?_;rw[not_or,Classical.not_not,Classical.not_not]at hn;exact h (Prod.ext hn.1 hn.2)
theorem Wx(b:BB F r0 r1 c0 c1)(gd:Good F):(0<=r0/\r0<=7)/\(0<=r1/\r1<=7)/\(0<=c0/\c0<=7)/\(0<=c1/\c1<=7):=by
 have mr:∀a∈F.map (·.1),0<=a/\a<=7:=fun a ha=>by obtain⟨p,hp,rfl⟩:=List.mem_map.mp ha;have:=gd.inn p hp;exact⟨this.1,this.2.1⟩
 have mc:∀a∈F.map (·.2),0<=a/\a<=7:=fun a ha=>by obtain⟨p,hp,rfl⟩:=List.mem_map.mp ha;have:=gd.inn p hp;exact this.2.2
 exact⟨mr _ b.r0m,mr _ b.r1m,mc _ b.c0m,mc _ b.c1m⟩
theorem eJ(b:BB F r0 r1 c0 c1)(gd:Good F):kap r0 r1 c0 c1 (-1,-1)=(r0-1,c0-1):=by obtain⟨h1,h2⟩:=b.le;obtain⟨b1,_,b3,_⟩:=Wx b gd;exact Prod.ext (show max (r0-1) (min (-1) (r1+1))=r0-1 by lia) (show max (c0-1) (min (-1) (c1+1))=c0-1 by lia)
theorem gB(b:BB F r0 r1 c0 c1)(gd:Good F):(∀x,g2 F x->Con Adj (g2 F) (-1,-1) x)->∀x,g1 F r0 r1 c0 c1 x->Con Adj (g1 F r0 r1 c0 c1) (r0-1,c0-1) x:=by
 intro Q x hx;obtain⟨b1,b2,b3,b4⟩:=Wx b gd;have key:∀y,Con Adj (g2 F) (-1,-1) y->Con Adj (g1 F r0 r1 c0 c1) (r0-1,c0-1) (kap r0 r1 c0 c1 y):=by
  intro y hy
  induction hy with
  |base=>rw[eJ b gd];exact .base
  |@step x y _ r gy ih=>
   refine .step ih ?_ (QG b gy.2);obtain⟨h1,h2,h3,h4⟩:=r;obtain⟨k1,k2⟩:=W7 (a:=r0-1) (b:=r1+1) ⟨h1,h2⟩;obtain⟨k3,k4⟩:=W7 (a:=c0-1) (b:=c1+1) ⟨h3,h4⟩;exact⟨k1,k2,k3,k4⟩
 have:=key x (Q x ⟨by have:=hx.1;lia,hx.2⟩)
 rw[cy hx.1]at this;exact this
theorem eH(b:BB F r0 r1 c0 c1)(gd:Good F):(∀x,g1 F r0 r1 c0 c1 x->Con Adj (g1 F r0 r1 c0 c1) (r0-1,c0-1) x)->∀x,g2 F x->Con Adj (g2 F) (-1,-1) x:=by
 intro P;obtain⟨h1,h2⟩:=b.le;obtain⟨b1,b2,b3,b4⟩:=Wx b gd;have hr:r0-1<=r1+1:=by lia
 have hc:c0-1<=c1+1:=by lia
 have sub:∀x,g1 F r0 r1 c0 c1 x->g2 F x:=fun x hx=>⟨by have:=hx.1;lia,hx.2⟩;have line:∀(n:Nat)(y:Sq),g2 F y->(y.1-(kap r0 r1 c0 c1 y).1).natAbs+(y.2-(kap r0 r1 c0 c1 y).2).natAbs<=n->Con Adj (g2 F) (kap r0 r1 c0 c1 y) y:=by
  intro n
  induction n with
  |zero=>
   intro y hy hn;have:kap r0 r1 c0 c1 y=y:=Prod.ext (by lia) (by lia);rw[this];exact .base
  |succ n ih=>
   intro y hy hn;by_cases e:kap r0 r1 c0 c1 y=y
   ·rw[e];exact .base
   ·have ek:kap r0 r1 c0 c1 (stI (r0-1) (r1+1) y.1,stI (c0-1) (c1+1) y.2)=kap r0 r1 c0 c1 y:=Prod.ext (aY hr y.1) (aY hc y.2);obtain⟨d1,d2⟩:=RV hr y.1;obtain⟨d3,d4⟩:=RV hc y.2;have hg:g2 F (stI (r0-1) (r1+1) y.1,stI (c0-1) (c1+1) y.2):=by
     obtain⟨y1,y2,y3,y4⟩:=hy.1;obtain⟨s1,s2⟩:=XM (a:=r0-1) (b:=r1+1) ⟨y1,y2⟩ (by lia) (by lia) hr;obtain⟨s3,s4⟩:=XM (a:=c0-1) (b:=c1+1) ⟨y3,y4⟩ (by lia) (by lia) hc;refine⟨⟨s1,s2,s3,s4⟩,fun hm=>?_⟩;obtain⟨k1,k2,k3,k4⟩:=b.in hm;exact e (Prod.ext (aF (by simp only at k1;lia) (by simp only at k2;lia)) (aF (by simp only at k3;lia) (by simp only at k4;lia)))
    have:=ih _ hg (by
     rw[ek];show(stI (r0-1) (r1+1) y.1-max (r0-1) (min y.1 (r1+1))).natAbs+(stI (c0-1) (c1+1) y.2-max (c0-1) (min y.2 (c1+1))).natAbs<=n;replace hn:(y.1-max (r0-1) (min y.1 (r1+1))).natAbs+(y.2-max (c0-1) (min y.2 (c1+1))).natAbs<=n+1:=hn;rcases au e with z|z
     ·have:=d2 z;lia
     ·have:=d4 z;lia)
    rw[ek]at this;obtain⟨a1,a2⟩:=Vw (r0-1) (r1+1) y.1;obtain⟨a3,a4⟩:=Vw (c0-1) (c1+1) y.2;exact .step this ⟨a1,a2,a3,a4⟩ hy
 have m1:g2 F (-1,-1):=⟨by decide,fun hm=>by have:=gd.inn _ hm;simp at this⟩;have k0:=eJ b gd;have oA:=line _ _ m1 (Nat.le_refl _);rw[k0]at oA;have gb:g2 F (r0-1,c0-1):=by
  have:=QG b m1.2
  rw[k0]at this;exact sub _ this
 have qR:=oA.symm Vj gb;intro x hx;refine qR.trans (Con.trans ((P _ (QG b hx.2)).mono (fun _ _ h=>h) sub) (line _ x hx (Nat.le_refl _)))
end
def Lm(F:List Sq)(s o:Sq):Bool:=F.contains o&&(!F.contains (s.1,o.2)&&!F.contains (o.1,s.2))
def Hs(F:List Sq):Bool:=F.any fun s=>(cnM s).any fun o=>Lm F s o
def EJ(F:List Sq)(s:Sq)(t:Int):Bool:=F.contains (s.1+1,s.2+t)&&(!F.contains (s.1,s.2+t)&&!F.contains (s.1+1,s.2))
def Ca(F:List Sq):Bool:=F.any fun s=>[(-1:Int),1].any fun t=>EJ F s t
theorem J1(F:List Sq):Hs F=Ca F:=by
 rw[Bool.eq_iff_iff];simp only[Hs,Ca,List.any_eq_true,Lm,EJ,Bool.and_eq_true,Bool.not_eq_true',List.contains_eq_mem,decide_eq_true_eq,decide_eq_false_iff_not,cnM,List.mem_cons,List.not_mem_nil,or_false];constructor
 ·rintro⟨s,hs,o,ho,h1,h2,h3⟩;obtain⟨a,b⟩:=s;rcases ho with rfl|rfl|rfl|rfl
  ·refine⟨_,h1,1,.inr rfl,?_,?_,?_⟩<;>simp only[Int.sub_add_cancel]<;>assumption
  ·refine⟨_,h1,-1,.inl rfl,?_,?_,?_⟩<;>simp only[Int.sub_add_cancel,show b+1+-1=b by lia]<;>assumption
  ·exact⟨_,hs,-1,.inl rfl,h1,h2,h3⟩
  ·exact⟨_,hs,1,.inr rfl,h1,h2,h3⟩
 ·rintro⟨s,hs,t,ht,h1,h2,h3⟩;rcases ht with rfl|rfl
  ·exact⟨s,hs,_,.inr (.inr (.inl rfl)),h1,h2,h3⟩
  ·exact⟨s,hs,_,.inr (.inr (.inr rfl)),h1,h2,h3⟩
end
section
open Classical in
theorem ji{R:Sq->Sq->Prop}{g:Sq->Prop}{s:Sq}{B:List Sq}(hB:B.Nodup)(hg:∀x,x∈B↔g x)(hs:g s):∃L,RL R g s L:=⟨B.filter fun x=>decide (Con R g s x),hB.filter _,fun x=>by
  rw[List.mem_filter,decide_eq_true_eq];exact⟨fun h=>h.2,fun h=>⟨(hg x).mpr (h.in hs),h⟩⟩⟩
theorem IA{R:Sq->Sq->Prop}{g:Sq->Prop}{s:Sq}{B:List Sq}(hB:B.Nodup)(hg:∀x,x∈B↔g x)(hs:g s):card R g s<=B.length/\(card R g s=B.length↔∀x,g x->Con R g s x):=by obtain⟨L,h⟩:=ji (R:=R) hB hg hs;rw[h.card];exact h.all hB hg hs
abbrev nbR:Sq->Sq->Prop:=fun p q=>q∈nbM p
abbrev aaR:Sq->Sq->Prop:=fun p q=>q∈aaM p
abbrev n9R:Sq->Sq->Prop:=fun p q=>q∈n9 p
def JA(F:List Sq):Bool:=(((card nbR (·∈F) (F.headD (0,0)):Nat):Int)==((F.length:Nat):Int))
def Us(F:List Sq)(r0 r1 c0 c1:Int):Bool:=decide (((card aaR (·∈DA F r0 r1 c0 c1) (r0-1,c0-1):Nat):Int)<(((DA F r0 r1 c0 c1).length:Nat):Int))
def DS(F:List Sq):Bool:=(((card n9R (g2 F) (-1,-1):Nat):Int)==100-((F.length:Nat):Int))
theorem OA{F:List Sq}(gd:Good F):((DQ (-1) (-1) 10 10).filter fun q=>!F.contains q).length=100-F.length/\F.length<=100:=by
 have h1:∀(l:List Sq)(p:Sq->Bool),(l.filter p).length+(l.filter fun q=>!p q).length=l.length:=by
  intro l p
  induction l with
  |nil=>rfl
  |cons a r ih=>
   by_cases h:p a=true
   ·simp only[List.filter_cons,h,if_true,Bool.not_true,Bool.false_eq_true,if_false,List.length_cons];lia
   ·simp only[List.filter_cons,h,if_false,Bool.false_eq_true,Bool.not_false,if_true,List.length_cons];lia
 have h2:=h1 (DQ (-1) (-1) 10 10) fun q=>F.contains q;have nd:=CD (Ky (-1) (-1) 10 10);have h3:((DQ (-1) (-1) 10 10).filter fun q=>F.contains q).length=F.length:=MD (nd.filter _) gd.nodup fun x=>by
  rw[List.mem_filter,Cd,List.contains_eq_mem,decide_eq_true_eq];exact⟨fun h=>h.2,fun h=>⟨by have:=gd.inn x h;lia,h⟩⟩
 rw[Hb,h3]at h2;lia
theorem Yb{F:List Sq}(gd:Good F){r0 r1 c0 c1:Int}(b:BB F r0 r1 c0 c1):(!Us F r0 r1 c0 c1)=DS F:=by
 obtain⟨h1,h2⟩:=b.le;have e0:=gd.inn;have k1:g1 F r0 r1 c0 c1 (r0-1,c0-1):=⟨by simp only;lia,fun hm=>by have:=b.in hm;simp only at this;lia⟩;have m1:g2 F (-1,-1):=⟨by decide,fun hm=>by have:=e0 _ hm;simp at this⟩;have eg:(fun x=>x∈DA F r0 r1 c0 c1)=g1 F r0 r1 c0 c1:=funext fun x=>propext (Pd b x);obtain⟨a1,a2⟩:=IA (R:=aaR) (s:=(r0-1,c0-1)) (Q6 (F:=F) (r0:=r0) (r1:=r1) (c0:=c0) (c1:=c1)) (Pd b) k1;have nd:=CD (Ky (-1) (-1) 10 10);obtain⟨b1,b2⟩:=IA (R:=n9R) (s:=(-1,-1)) (g:=g2 F) (B:=(DQ (-1) (-1) 10 10).filter fun q=>!F.contains q) (nd.filter _) (fun x=>by
  rw[List.mem_filter,Cd];simp only[Bool.not_eq_true',List.contains_eq_mem,decide_eq_false_iff_not,g2];constructor
  ·rintro⟨h,h'⟩;exact⟨by lia,h'⟩
  ·rintro⟨h,h'⟩;exact⟨by lia,h'⟩) m1
 obtain⟨l1,l2⟩:=OA gd;rw[l1]at b1 b2;have iff:(∀x,g1 F r0 r1 c0 c1 x->Con aaR (g1 F r0 r1 c0 c1) (r0-1,c0-1) x)↔∀x,g2 F x->Con n9R (g2 F) (-1,-1) x:=
  ⟨fun h x hx=>Zk.mpr (eH b gd (fun y hy=>Wu.mp (h y hy)) x hx),fun h x hx=>Wu.mpr (gB b gd (fun y hy=>Zk.mp (h y hy)) x hx)⟩
 rw[Bool.eq_iff_iff];unfold Us DS;rw[eg];simp only[Bool.not_eq_true',decide_eq_false_iff_not,beq_iff_eq];constructor
 ·intro h;have:card aaR (g1 F r0 r1 c0 c1) (r0-1,c0-1)=(DA F r0 r1 c0 c1).length:=by lia
  have:=b2.mpr (iff.mp (a2.mp this))
  lia
 ·intro h;have:card n9R (g2 F) (-1,-1)=100-F.length:=by lia
  have:=a2.mpr (iff.mpr (b2.mp this))
  lia
end
end TF
namespace TF
open PySem PySem.Spec L2
open PyProof.Rows hiding St RelV
theorem fM{G:Gs}{p1 p2:Addr}{A B A' B':OD}(h:p1≠p2):put (put (put (put G p1 A) p2 B) p1 A') p2 B'=put (put G p1 A') p2 B':=by
 funext b;simp only[put];by_cases h2:b=p2
 ·simp[h2]
 ·by_cases h1:b=p1
  ·simp[h1]
  ·simp[h1,h2]
theorem XR(L:List Sq)(p:Sq->Bool)(z:Sq)(h:p z=true):((L++[z]).filter p).map sq=(L.filter p).map sq++[sq z]:=by rw[List.filter_append,List.map_append];simp[h]
theorem TQ(L:List Sq)(p:Sq->Bool)(z:Sq)(h:¬p z=true):(L++[z]).filter p=L.filter p:=by rw[List.filter_append];simp[h]
theorem JZ(G:Gs)(q:List Sq):Nb G (fl q)=some q.length:=by simp[Nb,fl]
theorem RJ{F:List Sq}(gd:Good F):atI (F.map sq) 0=some (sq (F.headD (0,0))):=by
 cases F with
 |nil=>exact absurd rfl gd.ne
 |cons a r=>exact EV (j:=0) rfl
theorem CC(q:Sq):B4 6 (sq q)=true:=rfl
def kvT(q:Sq):Dat×Dat:=(sq q,.bl true)
theorem N2(L:List Sq)(v:Sq->Dat)(y:Sq):A1 (L.map fun q=>(sq q,v q)) (sq y)=if y∈L then some (v y)else none:=by
 induction L with
 |nil=>rfl
 |cons a r ih=>
  unfold A1 at ih ⊢;rw[List.map_cons,List.find?_cons];by_cases h:a=y
  ·subst h;simp
  ·have Bq:sq a≠sq y:=fun e=>h (Kv e);rw[decide_eq_false Bq];simp only;rw[ih];have:(y∈a::r)↔y∈r:=by simp[Ne.symm h]
   simp only[this]
theorem Hv(L:List Sq)(y:Sq):(A1 (L.map kvT) (sq y)).isSome=L.contains y:=by
 have:=N2 L (fun _=>.bl true) y
 have e:(L.map fun q=>(sq q,Dat.bl true))=L.map kvT:=rfl;rw[e]at this;rw[this];by_cases h:y∈L<;>simp[h]
theorem XI{L:List Sq}{y:Sq}(h:y∉L):Hq (L.map kvT) (sq y) (.bl true)=(L++[y]).map kvT:=by
 rw[OF,List.map_append]
 ·rfl
 ·have:=Hv L y
  cases e:A1 (L.map kvT) (sq y)with
  |none=>rfl
  |some d=>rw[e]at this;simp[h]at this
def Mb(nb:Sq->List Sq):SpD:=fun ds G R=>∃q:Sq,ds=[sq q]/\R (.lst ((nb q).map sq)) G
def IV(P:Program)(w:World)(K:PySem.W.Frag)(mg:Str->Option Value)(base:Heap)(kk:Nat):SpD:=fun ds G R=>∃(start:Sq)(g:List Sq)(gd:Dat)(f:Addr)(nb:Sq->List Sq),
 ds=[sq start,gd,.fn f]/\(gd=.tup (g.map sq)\/gd=.lst (g.map sq))/\DfA P w K mg base f ["square"] kk (Mb nb)/\g.length<=1000 ∧
  ∀p L,G p=none->RL (fun a b=>b∈nb a) (·∈g) start L->R (.fn p) (put G p (.dct (L.map kvT)))
def spF(v:List Sq->Dat):SpD:=fun ds G R=>∃F:List Sq,ds=[fl F]/\Good F/\R (v F) G
def Ux:SpD:=fun ds G R=>∃(F:List Sq)(r0 r1 c0 c1:Int),ds=[fl F]/\Good F/\BB F r0 r1 c0 c1/\R (.lst ((DA F r0 r1 c0 c1).map sq)) G
def Ug:SpD:=fun ds G R=>∃(F:List Sq)(r0 r1 c0 c1:Int),ds=[fl F]/\Good F/\BB F r0 r1 c0 c1/\R (.bl (Us F r0 r1 c0 c1)) G
def W2:SpD:=fun ds G R=>∃(F:List Sq)(s o:Sq),ds=[fl F,sq s,sq o]/\R (.bl (Lm F s o)) G
def Be(F:List Sq):Bool:=JA F&&(DS F&&!Hs F)
theorem X3{nb:Sq->List Sq}{g:List Sq}{s x:Sq}(h:Con (fun a b=>b∈nb a) (·∈g) s x):x∈s::g:=by
 cases h with
 |base=>exact List.mem_cons_self ..
 |step _ _ gy=>exact List.mem_cons_of_mem _ gy
theorem XY{R:Sq->Sq->Prop}{g:Sq->Prop}{s:Sq}{L:List Sq}(nd:L.Nodup)(hs:s∈L)(hc:∀x∈L,Con R g s x)(cl:∀x∈L,∀y,R x y->g y->y∈L):RL R g s L:=⟨nd,fun x=>⟨hc x,fun h=>by
  induction h with
  |base=>exact hs
  |step _ r gy ih=>exact cl _ ih _ r gy⟩⟩
theorem UR{F:List Sq}{r0 r1 c0 c1:Int}(b:BB F r0 r1 c0 c1):∃r,DA F r0 r1 c0 c1=(r0-1,c0-1)::r:=by
 obtain⟨h1,h2⟩:=b.le;unfold DA;obtain⟨m,hm⟩:∃m,(r1+2-(r0-1)).toNat=m+1:=⟨(r1+2-(r0-1)).toNat-1,by lia⟩;obtain⟨n,hn⟩:∃n,(c1+2-(c0-1)).toNat=n+1:=⟨(c1+2-(c0-1)).toNat-1,by lia⟩;rw[hm,hn];have e:∃r,DQ (r0-1) (c0-1) (m+1) (n+1)=(r0-1,c0-1)::r:=by
  unfold DQ;rw[show List.range (m+1)=0::(List.range m).map Nat.succ from List.range_succ_eq_map,List.flatMap_cons,show List.range (n+1)=0::(List.range n).map Nat.succ from List.range_succ_eq_map,List.map_cons];exact⟨_,by simp;rfl⟩
 obtain⟨r,e⟩:=e;rw[e,List.filter_cons,if_pos]
 ·exact⟨_,rfl⟩
 ·simp only[Bool.not_eq_true',List.contains_eq_mem,decide_eq_false_iff_not];intro hm
  have:=b.in hm
  simp only at this;lia
theorem Yn{F:List Sq}(gd:Good F){r0 r1 c0 c1:Int}(b:BB F r0 r1 c0 c1):(DA F r0 r1 c0 c1).length<=1000:=by
 have f6:∀a∈F.map (·.1),0<=a/\a<=7:=fun a ha=>by obtain⟨p,hp,rfl⟩:=List.mem_map.mp ha;have:=gd.inn p hp;lia
 have dc:∀a∈F.map (·.2),0<=a/\a<=7:=fun a ha=>by obtain⟨p,hp,rfl⟩:=List.mem_map.mp ha;have:=gd.inn p hp;lia
 have b1:=f6 _ b.r0m;have b2:=f6 _ b.r1m;have b3:=dc _ b.c0m;have b4:=dc _ b.c1m;refine Nat.le_trans (List.length_filter_le _ _) ?_;rw[Hb];have:(r1+2-(r0-1)).toNat*(c1+2-(c0-1)).toNat<=10*10:=Nat.mul_le_mul (by lia) (by lia);lia
theorem A5(q:Sq):AH 8 (sq q)=true:=Am q 7
theorem As(l:List Sq):(l.map sq).all (AH 8)=true:=GB l 7
theorem OH(q:Sq):(nbM q).Nodup:=by obtain⟨a,b⟩:=q;simp only[nbM,List.nodup_cons,List.mem_cons,List.not_mem_nil,or_false,Prod.mk.injEq,List.nodup_nil,and_true,not_false_eq_true];lia
def QK:SpD:=fun ds G R=>∃(F:List Sq)(q:Sq),ds=[fl F,sq q]/\R (.lst (((nbM q).filter F.contains).map sq)) G
def Na:SpD:=fun ds G R=>∃(ns:List Int),ds=[.scr ns]/\R (.bl true) G
theorem ic(l:List Dat):QF l (some 1) none=l.drop 1:=by
 unfold QF;cases l with
 |nil=>rfl
 |cons x r=>
  have e:HT.sIx (x::r).length 0 (some 1)=1:=by
   have:=HT.sIx_nat (x::r).length 0 1
   rw[show((1:Nat):Int)=1 from rfl]at this;rw[this,List.length_cons];lia
  rw[e,HT.sIx_none];simp
end TF
namespace TS
open PySem PyProof.Rows
section
variable {prog:Program}{w:World}{A:Around}{E:Value->Shared->Prop}{s:Shared}{a₀:Array Keyed}{r:Keyed->Nat}{k0:SortKind}
def CmpOk(prog:Program)(w:World)(A:Around)(s:Shared)(a₀:Array Keyed)(r:Keyed->Nat)(k0:SortKind):Prop:=∀x y,x∈a₀.toList->y∈a₀.toList->∀(E:Value->Shared->Prop)(Q:Bool->Shared->Prop),Q (decide (r x<r y)) s->wpAny (model prog w) A (keyLt' k0 x.1 y.1) Q E s
structure SB (a₀:Array Keyed) (k0:SortKind) (st:SortSt):Prop where
 perm:(arrOf st).Perm a₀
 kind:kindOf st=k0
 failed:failedOf st=none
theorem SB.size{st:SortSt}(h:SB a₀ k0 st):(arrOf st).size=a₀.size:=h.perm.size_eq
theorem SB.mem{st:SortSt}(h:SB a₀ k0 st){p:Keyed}(hp:p∈(arrOf st).toList):p∈a₀.toList:=(Array.perm_iff_toList_perm.mp h.perm).mem_iff.mp hp
theorem SB.memAt{st:SortSt}(h:SB a₀ k0 st){i:Nat}{p:Keyed}(hp:(arrOf st)[i]?=some p):p∈a₀.toList:=h.mem (by
 have:=Array.mem_of_getElem? hp
 exact Array.mem_toList_iff.mpr this)
theorem SB.setArr{st:SortSt}(h:SB a₀ k0 st){xs:Array Keyed}(hp:xs.Perm (arrOf st)):SB a₀ k0 (setArr st xs):=⟨hp.trans h.perm,h.kind,h.failed⟩
def Rk(r:Keyed->Nat)(xs:Array Keyed)(i:Nat):Nat:=match xs[i]? with
 |some p=>r p
 |none=>0
theorem RG{xs:Array Keyed}{i:Nat}{p:Keyed}(h:xs[i]?=some p):Rk r xs i=r p:=by unfold Rk;rw[h]
theorem Fq{xs ys:Array Keyed}{i j:Nat}(h:xs[i]?=ys[j]?):Rk r xs i=Rk r ys j:=by unfold Rk;rw[h]
theorem D7{xs:Array Keyed}{i j:Nat}(hj:j<=xs.size)(k:Nat):Rk r (mirror xs i j ((j-i) / 2)) k=if i<=k/\k<j then Rk r xs (i+j-1-k)else Rk r xs k:=by
 have e:=getElem?_mirror_all (i:=i) hj k;by_cases h:i<=k/\k<j
 ·rw[if_pos h]at e ⊢;exact Fq e
 ·rw[if_neg h]at e ⊢;exact Fq e
theorem TC{xs:Array Keyed}{i j:Nat}(hj:j<=xs.size){k:Nat}(hk:k<i):(mirror xs i j ((j-i) / 2))[k]?=xs[k]?:=by rw[getElem?_mirror_all (i:=i) hj k,if_neg (by lia)]
theorem Kg(hc:CmpOk prog w A s a₀ r k0){st:SortSt}(hB:SB a₀ k0 st){x y:Keyed}(hx:x∈a₀.toList)(hy:y∈a₀.toList){Q:Option Bool->SortSt->Prop}(h:Q (some (decide (r x<r y))) st):wpS (model prog w) A E s (lt' x y) Q st:=by rw[lt'_eq];refine wpS_bind (wpS_get ?_);rw[hB.kind];refine wpS_bind (wpS_lift (wpAny_attempt (hc x y hx hy _ _ ⟨rfl,?_⟩)));exact wpS_pure h
theorem Aj{st:SortSt}{xs:Array Keyed}{i:Nat}{p:Keyed}(hp:xs[i]?=some p){Q:Keyed->SortSt->Prop}(h:Q p st):wpS (model prog w) A E s (elem' xs i) Q st:=by rw[elem'_eq,hp];exact wpS_pure h
theorem Dx(hc:CmpOk prog w A s a₀ r k0){st:SortSt}(hB:SB a₀ k0 st){i j:Nat}(hi:i<a₀.size)(hj:j<a₀.size){Q:Option Bool->SortSt->Prop}(h:Q (some (decide (Rk r (arrOf st) i<Rk r (arrOf st) j))) st):wpS (model prog w) A E s (ltAt' i j) Q st:=by have ei:(arrOf st)[i]?=some ((arrOf st)[i]'(by rw[hB.size];exact hi)):=getElem?_pos _ i (by rw[hB.size];exact hi);have ej:(arrOf st)[j]?=some ((arrOf st)[j]'(by rw[hB.size];exact hj)):=getElem?_pos _ j (by rw[hB.size];exact hj);rw[RG ei,RG ej]at h;rw[ltAt'_eq];refine wpS_bind (wpS_get ?_);refine wpS_bind (Aj ei ?_);refine wpS_bind (Aj ej ?_);exact Kg hc hB (hB.memAt ei) (hB.memAt ej) h
def MA:Nat->Nat->StateT SortSt Sem (Option Nat):=sortPriv% PySem.Builtin.countRun
def JB:Nat->Nat->Nat->StateT SortSt Sem Bool:=sortPriv% PySem.Builtin.binarySort
def JX:Bool->Keyed->Array Keyed->Nat->Nat->Nat->StateT SortSt Sem (Option Nat):=sortPriv% PySem.Builtin.gallop
def O6:Array Keyed->Array Keyed->StateT SortSt Sem (Array Keyed):=sortPriv% PySem.Builtin.mergeLo
def Oc:Array Keyed->Array Keyed->StateT SortSt Sem (Array Keyed):=sortPriv% PySem.Builtin.mergeHi
structure Kp (a₀:Array Keyed) (k0:SortKind) (lo:Nat) (st AN:SortSt):Prop where
 base:SB a₀ k0 AN
 pend:pendingOf AN=pendingOf st
 low:∀k,k<lo->(arrOf AN)[k]?=(arrOf st)[k]?
theorem Kp.refl{st:SortSt}{lo:Nat}(h:SB a₀ k0 st):Kp a₀ k0 lo st st:=⟨h,rfl,fun _ _=>rfl⟩
theorem Kp.trans{st BS Ci:SortSt}{lo:Nat}(h:Kp a₀ k0 lo st BS)(h':Kp a₀ k0 lo BS Ci):Kp a₀ k0 lo st Ci:=⟨h'.base,h'.pend.trans h.pend,fun k hk=>(h'.low k hk).trans (h.low k hk)⟩
theorem Kp.mirror{st:SortSt}{lo i j:Nat}(h:SB a₀ k0 st)(hi:lo<=i)(hj:j<=a₀.size):Kp a₀ k0 lo st (PyProof.Rows.setArr st (mirror (arrOf st) i j ((j-i) / 2))):=⟨h.setArr (mirror_perm _ _ _ _),rfl,fun k hk=>TC (by rw[h.size];exact hj) (by lia)⟩
def Up(r:Keyed->Nat)(xs:Array Keyed)(a b:Nat):Prop:=∀i j,a<=i->i<=j->j<b->Rk r xs i<=Rk r xs j
def Dn(r:Keyed->Nat)(xs:Array Keyed)(a b:Nat):Prop:=∀i j,a<=i->i<=j->j<b->Rk r xs j<=Rk r xs i
theorem bU(xs:Array Keyed)(a:Nat):Up r xs a (a+1):=fun i j h1 h2 h3=>by
 obtain rfl:i=j:=by lia
 exact Nat.le_refl _
theorem SV{xs:Array Keyed}{a b:Nat}(h:Up r xs a b)(IG:a<b)(hl:Rk r xs (b-1)<=Rk r xs b):Up r xs a (b+1):=fun i j h1 h2 h3=>by
 by_cases hj:j<b
 ·exact h i j h1 h2 hj
 ·obtain rfl:j=b:=by lia
  by_cases hi:i=j
  ·subst hi;exact Nat.le_refl _
  ·exact Nat.le_trans (h i (j-1) h1 (by lia) (by lia)) hl
theorem MZ{xs:Array Keyed}{a b:Nat}(h:Dn r xs a b)(IG:a<b)(hl:Rk r xs b<=Rk r xs (b-1)):Dn r xs a (b+1):=fun i j h1 h2 h3=>by
 by_cases hj:j<b
 ·exact h i j h1 h2 hj
 ·obtain rfl:j=b:=by lia
  by_cases hi:i=j
  ·subst hi;exact Nat.le_refl _
  ·exact Nat.le_trans hl (h i (j-1) h1 (by lia) (by lia))
theorem Qs{M:Model}{σ α:Type}{c:Prop}[Decidable c]{m t:StateT σ Sem α}{Q:α->σ->Prop}{st:σ}{P:σ->Prop}(ht:∀BS,P BS->wpS M A E s t Q BS)(h:(∀BS,P BS->wpS M A E s t Q BS)->wpS M A E s (if c then m else t) Q st):wpS M A E s (if c then m else t) Q st:=h ht
theorem Om{M:Model}{σ α:Type}{c:Prop}[Decidable c]{m t:StateT σ Sem α}{Q:α->σ->Prop}{st:σ}{P:σ->Prop}(ht:∀BS,P BS->wpS M A E s t Q BS)(h:(∀BS,P BS->wpS M A E s t Q BS)->wpS M A E s (if c then m else t) Q st):wpS M A E s (if c then m else t) Q st:=h ht
theorem M9(hc:CmpOk prog w A s a₀ r k0){st:SortSt}(hB:SB a₀ k0 st){lo nrem:Nat}(h1:1<=nrem)(h2:lo+nrem<=a₀.size){Q:Option Nat->SortSt->Prop}(h:∀m AN,1<=m->m<=nrem->Kp a₀ k0 lo st AN->Up r (arrOf AN) lo (lo+m)->Q (some m) AN):wpS (model prog w) A E s (MA lo nrem) Q st:=by
 unfold MA;refine wpS_bind (wpS_mono (wpS_forRange (I:=fun x c AN=>AN=st/\c=(none,x)/\x<=nrem/\Up r (arrOf st) lo (lo+x))
  (Q:=fun c AN=>AN=st/\∃n,c=(none,n)/\1<=n/\n<=nrem/\Up r (arrOf st) lo (lo+n)/\(n=nrem\/Rk r (arrOf st) (lo+n)<Rk r (arrOf st) (lo+n-1))) ?_ ?_ ⟨rfl,rfl,h1,bU _ _⟩) ?_)
 ·rintro x c AN Rb Ud ⟨rfl,rfl,hx,hU⟩;refine wpS_bind (Dx hc hB (by lia) (by lia) ?_);dsimp only;by_cases Ar:Rk r (arrOf AN) (lo+x)<Rk r (arrOf AN) (lo+x-1)
  ·rw[decide_eq_true Ar,if_pos rfl];exact wpS_pure ⟨rfl,x,rfl,Rb,hx,hU,.inr Ar⟩
  ·rw[decide_eq_false Ar,if_neg (by decide)];exact wpS_pure ⟨rfl,rfl,by lia,SV (b:=lo+x) hU (by lia) (by lia)⟩
 ·rintro c AN ⟨rfl,rfl,hx,hU⟩;have e:max 1 nrem=nrem:=by lia
  rw[e]at hU ⊢;exact⟨rfl,nrem,rfl,h1,Nat.le_refl _,hU,.inl rfl⟩
 rintro c AN ⟨rfl,n,rfl,df,aq,hU,ee⟩;dsimp only;by_cases hnn:n=nrem
 ·rw[if_pos (by simpa using hnn)];exact wpS_pure (h n _ df aq (Kp.refl hB) hU)
 rw[if_neg (by simpa using hnn)];have Ar:=ee.resolve_left hnn;refine Qs (P:=fun BS=>Kp a₀ k0 lo AN BS/\Dn r (arrOf BS) lo (lo+(n+1))) ?tail ?rest
 case rest=>
  intro tail;by_cases hgt:n > 1
  ·rw[if_pos hgt];refine wpS_bind (Dx hc hB (by lia) (by lia) ?_);dsimp only;by_cases hrose:Rk r (arrOf AN) lo<Rk r (arrOf AN) (lo+n-1)
   ·rw[decide_eq_true hrose,if_pos rfl];exact wpS_pure (h n _ df aq (Kp.refl hB) hU)
   ·rw[decide_eq_false hrose,if_neg (by decide)];refine wpS_bind (wpS_modify (tail _ ⟨Kp.mirror hB (Nat.le_refl _) (by lia),?_⟩));have hsz:lo+n<=(arrOf AN).size:=by rw[hB.size];lia
    have heq:∀k,lo<=k->k<lo+n->Rk r (arrOf AN) k=Rk r (arrOf AN) (lo+n-1):=fun k g1 g2=>by
     have:=hU lo k (Nat.le_refl _) g1 g2
     have:=hU k (lo+n-1) g1 (by lia) (by lia)
     lia
    have hR:∀k,Rk r (mirror (arrOf AN) lo (lo+n) ((lo+n-lo) / 2)) k=Rk r (arrOf AN) k:=fun k=>by
     rw[D7 hsz];split
     ·rw[heq _ (by lia) (by lia),heq k (by lia) (by lia)]
     ·rfl
    intro i j g1 g2 g3;show Rk r (mirror (arrOf AN) lo (lo+n) ((lo+n-lo) / 2)) j<=Rk r (mirror (arrOf AN) lo (lo+n) ((lo+n-lo) / 2)) i;rw[hR,hR];by_cases hj:j=lo+n
    ·subst hj;by_cases hi:i=lo+n
     ·subst hi;exact Nat.le_refl _
     ·rw[heq i g1 (by lia)];lia
    ·rw[heq i g1 (by lia),heq j (by lia) (by lia)];exact Nat.le_refl _
  ·rw[if_neg hgt];obtain rfl:n=1:=by lia
   refine tail _ ⟨Kp.refl hB,?_⟩;intro i j g1 g2 g3;by_cases hi:i=j
   ·subst hi;exact Nat.le_refl _
   ·obtain rfl:i=lo:=by lia
    obtain rfl:j=i+1:=by lia
    have:i+1-1=i:=by lia
    rw[this]at Ar;lia
 case tail=>
  rintro BS ⟨m8,qO⟩;refine wpS_bind (wpS_lift (wpAny_rule ⟨rfl,?_⟩));refine wpS_bind (wpS_mono (wpS_forRange (I:=fun x c AN=>∃My,c=(none,x,My)/\x<=nrem/\Kp a₀ k0 lo BS AN/\Dn r (arrOf AN) lo (lo+x)/\My+1<=x/\∀i,lo+x-(My+1)<=i->i<lo+x->Rk r (arrOf AN) i=Rk r (arrOf AN) (lo+x-1))
   (Q:=fun c AN=>∃m My,c=(none,m,My)/\n+1<=m/\m<=nrem/\Kp a₀ k0 lo BS AN/\Dn r (arrOf AN) lo (lo+m)/\My+1<=m/\∀i,lo+m-(My+1)<=i->i<lo+m->Rk r (arrOf AN) i=Rk r (arrOf AN) (lo+m-1)) ?_ ?_ ⟨0,rfl,by lia,Kp.refl m8.base,qO,by lia,fun i g1 g2=>by congr 1;lia⟩) ?_)
  ·rintro x c Ci Rb Ud ⟨My,rfl,hx,LU,Xm,hq,he⟩;have hsz:lo+x<=(arrOf Ci).size:=by rw[LU.base.size];lia
   dsimp only;refine wpS_bind (Dx hc LU.base (by lia) (by lia) ?_);dsimp only;by_cases Tx:Rk r (arrOf Ci) (lo+x)<Rk r (arrOf Ci) (lo+x-1)
   ·rw[decide_eq_true Tx,if_pos rfl];by_cases hneq:My > 0
    ·rw[if_pos hneq];refine wpS_bind (wpS_modify (wpS_pure ⟨0,rfl,by lia,LU.trans (Kp.mirror LU.base (by lia) (by lia)),?_,by lia,fun i g1 g2=>by congr 1;lia⟩));have hR:∀k,Rk r (mirror (arrOf Ci) (lo+x-(My+1)) (lo+x) ((lo+x-(lo+x-(My+1))) / 2)) k=Rk r (arrOf Ci) k:=fun k=>by
      rw[D7 hsz];split
      ·rw[he _ (by lia) (by lia),he k (by lia) (by lia)]
      ·rfl
     intro i j g1 g2 g3;show Rk r (mirror (arrOf Ci) _ _ _) j<=Rk r (mirror (arrOf Ci) _ _ _) i;rw[hR,hR];exact MZ (b:=lo+x) Xm (by lia) (by lia) i j g1 g2 g3
    ·rw[if_neg hneq];exact wpS_pure ⟨0,rfl,by lia,LU,MZ (b:=lo+x) Xm (by lia) (by lia),by lia,fun i g1 g2=>by congr 1;lia⟩
   ·rw[decide_eq_false Tx,if_neg (by decide)];refine wpS_bind (Dx hc LU.base (by lia) (by lia) ?_);dsimp only;by_cases aQ:Rk r (arrOf Ci) (lo+x-1)<Rk r (arrOf Ci) (lo+x)
    ·rw[decide_eq_true aQ,if_pos rfl];exact wpS_pure ⟨x,My,rfl,Rb,hx,LU,Xm,hq,he⟩
    ·rw[decide_eq_false aQ,if_neg (by decide)];refine wpS_pure ⟨My+1,rfl,by lia,LU,MZ (b:=lo+x) Xm (by lia) (by lia),by lia,fun i g1 g2=>?_⟩;have e:lo+(x+1)-1=lo+x:=by lia
     rw[e];by_cases hi:i=lo+x
     ·subst hi;rfl
     ·rw[he i (by lia) (by lia)];lia
  ·rintro c Ci ⟨My,rfl,hx,LU,Xm,hq,he⟩;have e:max (n+1) nrem=nrem:=by lia
   rw[e]at Xm hq he ⊢;exact⟨nrem,My,rfl,by lia,Nat.le_refl _,LU,Xm,hq,he⟩
  rintro c Ci ⟨m,My,rfl,VL,Xf,LU,Xm,hq,he⟩;dsimp only;have hsz:lo+m<=(arrOf Ci).size:=by rw[LU.base.size];lia
  refine Om (P:=fun GR=>Kp a₀ k0 lo BS GR/\Dn r (arrOf GR) lo (lo+m)) ?_ ?_
  ·rintro GR ⟨aO,rO⟩;have Mk:lo+m<=(arrOf GR).size:=by rw[aO.base.size];lia
   have lu:=Kp.mirror (lo:=lo) (i:=lo) (j:=lo+m) aO.base (Nat.le_refl _) (by lia);refine wpS_bind (wpS_modify ?_);refine wpS_bind (wpS_mono (wpS_forRange (I:=fun x c AN=>AN=PyProof.Rows.setArr GR (mirror (arrOf GR) lo (lo+m) ((lo+m-lo) / 2))/\c=(none,x)/\x<=nrem/\Up r (mirror (arrOf GR) lo (lo+m) ((lo+m-lo) / 2)) lo (lo+x))
    (Q:=fun c AN=>AN=PyProof.Rows.setArr GR (mirror (arrOf GR) lo (lo+m) ((lo+m-lo) / 2))/\∃n,c=(none,n)/\1<=n/\n<=nrem/\Up r (mirror (arrOf GR) lo (lo+m) ((lo+m-lo) / 2)) lo (lo+n)) ?_ ?_ ⟨rfl,rfl,Xf,?_⟩) ?_)
   ·rintro x c AN Rb Ud ⟨rfl,rfl,hx,hU⟩;refine wpS_bind (Dx hc lu.base (by lia) (by lia) ?_);dsimp only;by_cases Ar:Rk r (mirror (arrOf GR) lo (lo+m) ((lo+m-lo) / 2)) (lo+x)<Rk r (mirror (arrOf GR) lo (lo+m) ((lo+m-lo) / 2)) (lo+x-1)
    ·rw[decide_eq_true Ar,if_pos rfl];exact wpS_pure ⟨rfl,x,rfl,by lia,hx,hU⟩
    ·rw[decide_eq_false Ar,if_neg (by decide)];exact wpS_pure ⟨rfl,rfl,by lia,SV (b:=lo+x) hU (by lia) (by lia)⟩
   ·rintro c AN ⟨rfl,rfl,hx,hU⟩;have e:max m nrem=nrem:=by lia
    rw[e]at hU ⊢;exact⟨rfl,nrem,rfl,h1,Nat.le_refl _,hU⟩
   ·intro i j g1 g2 g3;rw[D7 Mk,D7 Mk,if_pos (by lia),if_pos (by lia)];exact rO _ _ (by lia) (by lia) (by lia)
   ·rintro c AN ⟨rfl,n',rfl,lF,jr,qo⟩;exact wpS_pure (h n' _ lF jr (m8.trans (aO.trans lu)) qo)
  ·intro tail;by_cases hneq:My > 0
   ·rw[if_pos hneq];refine wpS_bind (wpS_modify (tail _ ⟨LU.trans (Kp.mirror LU.base (by lia) (by lia)),?_⟩));have hR:∀k,Rk r (mirror (arrOf Ci) (lo+m-(My+1)) (lo+m) ((lo+m-(lo+m-(My+1))) / 2)) k=Rk r (arrOf Ci) k:=fun k=>by
     rw[D7 hsz];split
     ·rw[he _ (by lia) (by lia),he k (by lia) (by lia)]
     ·rfl
    intro i j g1 g2 g3;show Rk r (mirror (arrOf Ci) _ _ _) j<=Rk r (mirror (arrOf Ci) _ _ _) i;rw[hR,hR];exact Xm i j g1 g2 g3
   ·rw[if_neg hneq];exact tail _ ⟨LU,Xm⟩
theorem L9{xs:Array Keyed}{src d:Nat}(hs:src<xs.size)(hd:d<=src)(k:Nat):Rk r (bubble xs src d) k=if k=src-d then Rk r xs src else if src-d<k/\k<=src then Rk r xs (k-1)else Rk r xs k:=by
 have e:=getElem?_bubble hs d hd k;by_cases h1:k=src-d
 ·rw[if_pos h1]at e ⊢;exact Fq e
 ·rw[if_neg h1]at e ⊢;by_cases h2:src-d<k/\k<=src
  ·rw[if_pos h2]at e ⊢;exact Fq e
  ·rw[if_neg h2]at e ⊢;exact Fq e
theorem J6(hc:CmpOk prog w A s a₀ r k0){st:SortSt}(hB:SB a₀ k0 st){lo n ok:Nat}(h2:lo+n<=a₀.size)(hok:ok<=n)(hU:Up r (arrOf st) lo (lo+ok)){Q:Bool->SortSt->Prop}(h:∀AN,Kp a₀ k0 lo st AN->Up r (arrOf AN) lo (lo+n)->Q true AN):wpS (model prog w) A E s (JB lo n ok) Q st:=by
 unfold JB;refine wpS_bind (wpS_mono (wpS_forRange (I:=fun k c AN=>c=(none,())/\Kp a₀ k0 lo st AN/\Up r (arrOf AN) lo (lo+min k n))
  (Q:=fun c AN=>c=(none,())/\Kp a₀ k0 lo st AN/\Up r (arrOf AN) lo (lo+n)) ?_ ?_ ⟨rfl,Kp.refl hB,?_⟩) ?_)
 ·rintro k c BS NI Dr ⟨rfl,hK,aM⟩;have e:min k n=k:=by lia
  rw[e]at aM;have hsz:lo+k<(arrOf BS).size:=by rw[hK.base.size];lia
  dsimp only;refine wpS_bind (wpS_mono (wpS_forRange (I:=fun x c AN=>AN=BS/\∃l u,c=(none,l,u)/\l<=u/\u<=k/\u-l<=k-x/\(∀i,i<l->Rk r (arrOf BS) (lo+i)<=Rk r (arrOf BS) (lo+k))/\∀i,u<=i->i<k->Rk r (arrOf BS) (lo+k)<Rk r (arrOf BS) (lo+i))
   (Q:=fun c AN=>AN=BS/\∃l u,c=(none,l,u)/\l<=k/\(∀i,i<l->Rk r (arrOf BS) (lo+i)<=Rk r (arrOf BS) (lo+k))/\∀i,l<=i->i<k->Rk r (arrOf BS) (lo+k)<Rk r (arrOf BS) (lo+i)) ?_ ?_ ⟨rfl,0,k,rfl,by lia,by lia,by lia,fun i hi=>by lia,fun i g1 g2=>by lia⟩) ?_)
  ·rintro x c Ci Rb Ud ⟨rfl,l,u,rfl,g1,g2,g3,g4,g5⟩;dsimp only;by_cases JP:l≥u
   ·rw[if_pos JP];exact wpS_pure ⟨rfl,l,u,rfl,by lia,g4,fun i q1 q2=>g5 i (by lia) q2⟩
   ·rw[if_neg JP];refine wpS_bind (Dx hc hK.base (by lia) (by lia) ?_);dsimp only;by_cases hl:Rk r (arrOf Ci) (lo+k)<Rk r (arrOf Ci) (lo+(l+u) / 2)
    ·rw[decide_eq_true hl,if_pos rfl];refine wpS_pure ⟨rfl,l,(l+u) / 2,rfl,by lia,by lia,by lia,g4,fun i q1 q2=>?_⟩
     have:=aM (lo+(l+u) / 2) (lo+i) (by lia) (by lia) (by lia)
     lia
    ·rw[decide_eq_false hl,if_neg (by decide)];refine wpS_pure ⟨rfl,(l+u) / 2+1,u,rfl,by lia,by lia,by lia,fun i q1=>?_,g5⟩
     have:=aM (lo+i) (lo+(l+u) / 2) (by lia) (by lia) (by lia)
     lia
  ·rintro c Ci ⟨rfl,l,u,rfl,g1,g2,g3,g4,g5⟩;exact⟨rfl,l,u,rfl,by lia,g4,fun i q1 q2=>g5 i (by lia) q2⟩
  ·rintro c Ci ⟨rfl,l,u,rfl,g1,g2,g3⟩;dsimp only;refine wpS_bind (wpS_modify (wpS_pure ⟨rfl,hK.trans ⟨hK.base.setArr (bubble_perm _ (lo+k) (lo+k-(lo+l))),rfl,fun q hq=>?_⟩,?_⟩))
   ·show(bubble (arrOf Ci) (lo+k) (lo+k-(lo+l)))[q]?=_;rw[getElem?_bubble hsz _ (by lia),if_neg (by lia),if_neg (by lia)]
   ·have e1:min (k+1) n=k+1:=by lia
    rw[e1];intro i j q1 q2 q3;show Rk r (bubble (arrOf Ci) (lo+k) (lo+k-(lo+l))) i<=Rk r (bubble (arrOf Ci) (lo+k) (lo+k-(lo+l))) j;rw[L9 hsz (by lia),L9 hsz (by lia),show lo+k-(lo+k-(lo+l))=lo+l by lia];have a1:∀i,lo<=i->i<lo+l->Rk r (arrOf Ci) i<=Rk r (arrOf Ci) (lo+k):=fun i z1 z2=>by
     have:=g2 (i-lo) (by lia)
     rwa [show lo+(i-lo)=i by lia]at this
    have a2:∀i,lo+l<=i->i<lo+k->Rk r (arrOf Ci) (lo+k)<Rk r (arrOf Ci) i:=fun i z1 z2=>by
     have:=g3 (i-lo) (by lia) (by lia)
     rwa [show lo+(i-lo)=i by lia]at this
    repeat' split
    all_goals first
     |(exfalso;lia)
     |exact Nat.le_refl _
     |exact Nat.le_of_lt (a2 _ (by lia) (by lia))
     |exact a1 _ (by lia) (by lia)
     |exact aM _ _ (by lia) (by lia) (by lia)
 ·rintro c BS ⟨rfl,hK,aM⟩;refine⟨rfl,hK,?_⟩;have e:min (max (max ok 1) n) n=n:=by lia
  rwa [e]at aM
 ·intro i j g1 g2 g3;by_cases h0:ok=0
  ·obtain rfl:i=j:=by lia
   exact Nat.le_refl _
  ·exact hU i j g1 g2 (by lia)
 ·rintro c BS ⟨rfl,hK,aM⟩;exact wpS_pure (h BS hK aM)
def Bf(r:Keyed->Nat)(left:Bool)(key:Keyed)(xs:Array Keyed)(i:Nat):Bool:=if left then decide (Rk r xs i<r key)else !decide (r key<Rk r xs i)
theorem Zd{left:Bool}{key:Keyed}{xs:Array Keyed}{a b i j:Nat}(hU:Up r xs a b)(h1:a<=i)(h2:i<=j)(h3:j<b)(h:Bf r left key xs j=true):Bf r left key xs i=true:=by
 have:=hU i j h1 h2 h3
 unfold Bf at *;cases left
 ·simp at *;lia
 ·simp at *;lia
theorem KU(hc:CmpOk prog w A s a₀ r k0){st:SortSt}(hB:SB a₀ k0 st){left:Bool}{key:Keyed}{xs:Array Keyed}{base n hint:Nat}(hk:key∈a₀.toList)(hx:∀p∈xs.toList,p∈a₀.toList)(hsz:base+n<=xs.size)(hh:hint<n)(hU:Up r xs base (base+n)){Q:Option Nat->SortSt->Prop}(h:∀k,k<=n->(∀i,i<k->Bf r left key xs (base+i)=true)->(∀i,k<=i->i<n->Bf r left key xs (base+i)=false)->Q (some k) st):wpS (model prog w) A E s (JX left key xs base n hint) Q st:=by
 have beyond:∀(i:Nat)(Q:Option Bool->SortSt->Prop),i<n->Q (some (Bf r left key xs (base+i))) st->wpS (model prog w) A E s (do
   let x <-elem' xs (base+i)
   if left then lt' x key else return (<-lt' key x).map (!·)) Q st:=by
  intro i Q hi hQ;have e:xs[base+i]?=some (xs[base+i]'(by lia)):=getElem?_pos _ _ (by lia);have hm:(xs[base+i]'(by lia))∈a₀.toList:=hx _ (Array.mem_toList_iff.mpr (Array.mem_of_getElem? e));refine wpS_bind (Aj e ?_);unfold Bf at hQ;rw[RG e]at hQ;cases left with
  |true=>
   rw[if_pos rfl]at hQ ⊢;exact Kg hc hB hm hk hQ
  |false=>
   rw[if_neg (by decide)]at hQ ⊢;exact wpS_bind (Kg hc hB hk hm (wpS_pure hQ))
 have mono:∀i j,i<=j->j<n->Bf r left key xs (base+j)=true->Bf r left key xs (base+i)=true:=fun i j g1 g2 g3=>Zd hU (by lia) (by lia) (by lia) g3;have R0:∀i j,i<=j->j<n->Bf r left key xs (base+i)=false->Bf r left key xs (base+j)=false:=fun i j g1 g2 g3=>by
  cases e:Bf r left key xs (base+j)with
  |false=>rfl
  |true=>rw[mono i j g1 g2 e]at g3;cases g3
 unfold JX;refine wpS_bind (beyond hint _ hh ?_);dsimp only;cases hr:Bf r left key xs (base+hint)with
 |true=>
  rw[if_pos rfl];refine wpS_bind (wpS_mono (wpS_forRange (I:=fun x c AN=>AN=st/\∃la o,c=(none,la,o)/\la<o/\x+1<=o/\la<n-hint/\Bf r left key xs (base+(hint+la))=true)
   (Q:=fun c AN=>AN=st/\∃la o,c=(none,la,o)/\la<o/\la<n-hint/\Bf r left key xs (base+(hint+la))=true/\(n-hint<=o\/Bf r left key xs (base+(hint+o))=false)) ?_ ?_ ⟨rfl,0,1,rfl,by lia,by lia,by lia,hr⟩) ?_)
  ·rintro x c AN Rb Ud ⟨rfl,la,o,rfl,g1,g2,g3,g4⟩;dsimp only;by_cases JP:o≥n-hint
   ·rw[if_pos JP];exact wpS_pure ⟨rfl,la,o,rfl,g1,g3,g4,.inl JP⟩
   ·rw[if_neg JP];refine wpS_bind (beyond (hint+o) _ (by lia) ?_);dsimp only;cases hb:Bf r left key xs (base+(hint+o))with
    |true=>
     rw[if_neg (by decide)];exact wpS_pure ⟨rfl,o,2*o+1,rfl,by lia,by lia,by lia,hb⟩
    |false=>
     rw[if_pos (by decide)];exact wpS_pure ⟨rfl,la,o,rfl,g1,g3,g4,.inr hb⟩
  ·rintro c AN ⟨rfl,la,o,rfl,g1,g2,g3,g4⟩;exact⟨rfl,la,o,rfl,g1,g3,g4,.inl (by lia)⟩
  rintro c AN ⟨rfl,la,o,rfl,g1,g3,g4,g5⟩;dsimp only;have t1:∀i,i<hint+la+1->Bf r left key xs (base+i)=true:=fun i hi=>mono i (hint+la) (by lia) (by lia) g4;have t2:∀i,hint+min o (n-hint)<=i->i<n->Bf r left key xs (base+i)=false:=fun i q1 q2=>by
   rcases g5 with z|z
   ·lia
   ·exact R0 (hint+o) i (by lia) q2 z
  refine wpS_bind (wpS_mono (wpS_forRange (I:=fun x c BS=>BS=AN/\∃l u,c=(none,l,u)/\l<=u/\u<=n/\u-l<=n-x/\(∀i,i<l->Bf r left key xs (base+i)=true)/\∀i,u<=i->i<n->Bf r left key xs (base+i)=false)
   (Q:=fun c BS=>BS=AN/\∃l u,c=(none,l,u)/\u<=n/\(∀i,i<u->Bf r left key xs (base+i)=true)/\∀i,u<=i->i<n->Bf r left key xs (base+i)=false) ?_ ?_ ⟨rfl,_,_,rfl,by lia,by lia,by lia,t1,t2⟩) ?_)
  ·rintro x c BS Rb Ud ⟨rfl,l,u,rfl,q1,q2,q3,q4,q5⟩;dsimp only;by_cases JP:l≥u
   ·rw[if_pos JP];exact wpS_pure ⟨rfl,l,u,rfl,q2,fun i hi=>q4 i (by lia),q5⟩
   ·rw[if_neg JP];refine wpS_bind (beyond (l+(u-l) / 2) _ (by lia) ?_);dsimp only;cases hb:Bf r left key xs (base+(l+(u-l) / 2))with
    |true=>
     rw[if_pos rfl];exact wpS_pure ⟨rfl,_,_,rfl,by lia,by lia,by lia,fun i hi=>mono i (l+(u-l) / 2) (by lia) (by lia) hb,q5⟩
    |false=>
     rw[if_neg (by decide)];exact wpS_pure ⟨rfl,_,_,rfl,by lia,by lia,by lia,q4,fun i z1 z2=>R0 (l+(u-l) / 2) i z1 z2 hb⟩
  ·rintro c BS ⟨rfl,l,u,rfl,q1,q2,q3,q4,q5⟩;exact⟨rfl,l,u,rfl,q2,fun i hi=>q4 i (by lia),q5⟩
  ·rintro c BS ⟨rfl,l,u,rfl,q2,q4,q5⟩;exact wpS_pure (h u q2 q4 q5)
 |false=>
  rw[if_neg (by decide)];refine wpS_bind (wpS_mono (wpS_forRange (I:=fun x c AN=>AN=st/\∃la o,c=(none,la,o)/\la<o/\x+1<=o/\la<hint+1/\Bf r left key xs (base+(hint-la))=false)
   (Q:=fun c AN=>AN=st/\∃la o,c=(none,la,o)/\la<o/\la<hint+1/\Bf r left key xs (base+(hint-la))=false/\(hint+1<=o\/Bf r left key xs (base+(hint-o))=true)) ?_ ?_ ⟨rfl,0,1,rfl,by lia,by lia,by lia,hr⟩) ?_)
  ·rintro x c AN Rb Ud ⟨rfl,la,o,rfl,g1,g2,g3,g4⟩;dsimp only;by_cases JP:o≥hint+1
   ·rw[if_pos JP];exact wpS_pure ⟨rfl,la,o,rfl,g1,g3,g4,.inl JP⟩
   ·rw[if_neg JP];refine wpS_bind (beyond (hint-o) _ (by lia) ?_);dsimp only;cases hb:Bf r left key xs (base+(hint-o))with
    |true=>
     rw[if_pos rfl];exact wpS_pure ⟨rfl,la,o,rfl,g1,g3,g4,.inr hb⟩
    |false=>
     rw[if_neg (by decide)];exact wpS_pure ⟨rfl,o,2*o+1,rfl,by lia,by lia,by lia,hb⟩
  ·rintro c AN ⟨rfl,la,o,rfl,g1,g2,g3,g4⟩;exact⟨rfl,la,o,rfl,g1,g3,g4,.inl (by lia)⟩
  rintro c AN ⟨rfl,la,o,rfl,g1,g3,g4,g5⟩;dsimp only;have t1:∀i,i<hint+1-min o (hint+1)->Bf r left key xs (base+i)=true:=fun i hi=>by
   rcases g5 with z|z
   ·lia
   ·exact mono i (hint-o) (by lia) (by lia) z
  have t2:∀i,hint-la<=i->i<n->Bf r left key xs (base+i)=false:=fun i q1 q2=>R0 (hint-la) i q1 q2 g4;refine wpS_bind (wpS_mono (wpS_forRange (I:=fun x c BS=>BS=AN/\∃l u,c=(none,l,u)/\l<=u/\u<=n/\u-l<=n-x/\(∀i,i<l->Bf r left key xs (base+i)=true)/\∀i,u<=i->i<n->Bf r left key xs (base+i)=false)
   (Q:=fun c BS=>BS=AN/\∃l u,c=(none,l,u)/\u<=n/\(∀i,i<u->Bf r left key xs (base+i)=true)/\∀i,u<=i->i<n->Bf r left key xs (base+i)=false) ?_ ?_ ⟨rfl,_,_,rfl,by lia,by lia,by lia,t1,t2⟩) ?_)
  ·rintro x c BS Rb Ud ⟨rfl,l,u,rfl,q1,q2,q3,q4,q5⟩;dsimp only;by_cases JP:l≥u
   ·rw[if_pos JP];exact wpS_pure ⟨rfl,l,u,rfl,q2,fun i hi=>q4 i (by lia),q5⟩
   ·rw[if_neg JP];refine wpS_bind (beyond (l+(u-l) / 2) _ (by lia) ?_);dsimp only;cases hb:Bf r left key xs (base+(l+(u-l) / 2))with
    |true=>
     rw[if_pos rfl];exact wpS_pure ⟨rfl,_,_,rfl,by lia,by lia,by lia,fun i hi=>mono i (l+(u-l) / 2) (by lia) (by lia) hb,q5⟩
    |false=>
     rw[if_neg (by decide)];exact wpS_pure ⟨rfl,_,_,rfl,by lia,by lia,by lia,q4,fun i z1 z2=>R0 (l+(u-l) / 2) i z1 z2 hb⟩
  ·rintro c BS ⟨rfl,l,u,rfl,q1,q2,q3,q4,q5⟩;exact⟨rfl,l,u,rfl,q2,fun i hi=>q4 i (by lia),q5⟩
  ·rintro c BS ⟨rfl,l,u,rfl,q2,q4,q5⟩;exact wpS_pure (h u q2 q4 q5)
def le(r:Keyed->Nat)(x y:Keyed):Prop:=r x<=r y
abbrev Srt(r:Keyed->Nat)(l:List Keyed):Prop:=l.Pairwise (le r)
theorem DY{xs:Array Keyed}{i:Nat}{p:Keyed}(h:xs.toList[i]?=some p):Rk r xs i=r p:=RG (by rw[<-Array.getElem?_toList];exact h)
theorem Zq{xs:Array Keyed}{base n:Nat}(hsz:base+n<=xs.size)(h:Srt r ((xs.toList.drop base).take n)):Up r xs base (base+n):=by
 intro i j g1 g2 g3;by_cases e:i=j
 ·subst e;exact Nat.le_refl _
 have hl:xs.toList.length=xs.size:=Array.length_toList;have hi:((xs.toList.drop base).take n)[i-base]?=some (xs.toList[i]'(by lia)):=by
  rw[List.getElem?_take,if_pos (by lia),List.getElem?_drop,show base+(i-base)=i by lia,List.getElem?_eq_getElem]
 have hj:((xs.toList.drop base).take n)[j-base]?=some (xs.toList[j]'(by lia)):=by
  rw[List.getElem?_take,if_pos (by lia),List.getElem?_drop,show base+(j-base)=j by lia,List.getElem?_eq_getElem]
 obtain⟨iH,jA⟩:=List.getElem?_eq_some_iff.mp hi;obtain⟨di,iF⟩:=List.getElem?_eq_some_iff.mp hj
 have:=List.pairwise_iff_getElem.mp h (i-base) (j-base) iH di (by lia)
 rw[jA,iF]at this;rw[DY (List.getElem?_eq_getElem (show i<xs.toList.length by lia)),DY (List.getElem?_eq_getElem (show j<xs.toList.length by lia))];exact this
theorem FO(hc:CmpOk prog w A s a₀ r k0){st:SortSt}(hB:SB a₀ k0 st){key:Keyed}{xs:Array Keyed}{base n hint:Nat}(hk:key∈a₀.toList)(hx:∀p∈xs.toList,p∈a₀.toList)(hsz:base+n<=xs.size)(hh:hint<n)(hS:Srt r ((xs.toList.drop base).take n)){Q:Option Nat->SortSt->Prop}(h:∀k,k<=n->(∀c∈(xs.toList.drop base).take k,r c<=r key)->(∀c∈((xs.toList.drop base).take n).drop k,r key<r c)->Q (some k) st):wpS (model prog w) A E s (JX false key xs base n hint) Q st:=by
 refine KU hc hB hk hx hsz hh (Zq hsz hS) fun k DP h1 h2=>h k DP (fun c Ra=>?_) fun c Ra=>?_
 ·obtain⟨i,hi⟩:=List.mem_iff_getElem?.mp Ra;rw[List.getElem?_take]at hi;split at hi
  ·rename_i Ar;rw[List.getElem?_drop]at hi
   have:=h1 i Ar
   unfold Bf at this;rw[DY hi]at this;simp at this;exact this
  ·cases hi
 ·obtain⟨i,hi⟩:=List.mem_iff_getElem?.mp Ra;rw[List.getElem?_drop,List.getElem?_take]at hi;split at hi
  ·rename_i Ar;rw[List.getElem?_drop]at hi
   have:=h2 (k+i) (by lia) Ar
   unfold Bf at this;rw[DY hi]at this;simp at this;exact this
  ·cases hi
theorem Fb(hc:CmpOk prog w A s a₀ r k0){st:SortSt}(hB:SB a₀ k0 st){key:Keyed}{xs:Array Keyed}{base n hint:Nat}(hk:key∈a₀.toList)(hx:∀p∈xs.toList,p∈a₀.toList)(hsz:base+n<=xs.size)(hh:hint<n)(hS:Srt r ((xs.toList.drop base).take n)){Q:Option Nat->SortSt->Prop}(h:∀k,k<=n->(∀c∈(xs.toList.drop base).take k,r c<r key)->(∀c∈((xs.toList.drop base).take n).drop k,r key<=r c)->Q (some k) st):wpS (model prog w) A E s (JX true key xs base n hint) Q st:=by
 refine KU hc hB hk hx hsz hh (Zq hsz hS) fun k DP h1 h2=>h k DP (fun c Ra=>?_) fun c Ra=>?_
 ·obtain⟨i,hi⟩:=List.mem_iff_getElem?.mp Ra;rw[List.getElem?_take]at hi;split at hi
  ·rename_i Ar;rw[List.getElem?_drop]at hi
   have:=h1 i Ar
   unfold Bf at this;rw[DY hi]at this;simpa using this
  ·cases hi
 ·obtain⟨i,hi⟩:=List.mem_iff_getElem?.mp Ra;rw[List.getElem?_drop,List.getElem?_take]at hi;split at hi
  ·rename_i Ar;rw[List.getElem?_drop]at hi
   have:=h2 (k+i) (by lia) Ar
   unfold Bf at this;rw[DY hi]at this;simpa using this
  ·cases hi
theorem Ox{out C LA LB:List Keyed}(h1:Srt r (out++LA))(h2:Srt r (out++(C++LB)))(h3:∀c∈C,∀y∈LA,r c<=r y):Srt r ((out++C)++LA)/\Srt r ((out++C)++LB):=by
 constructor
 ·rw[List.append_assoc];obtain⟨a1,a2,a3⟩:=List.pairwise_append.mp h1;obtain⟨b1,b2,b3⟩:=List.pairwise_append.mp h2;obtain⟨c1,c2,c3⟩:=List.pairwise_append.mp b2;refine List.pairwise_append.mpr ⟨a1,List.pairwise_append.mpr ⟨c1,a2,h3⟩,fun x hx y hy=>?_⟩;rcases List.mem_append.mp hy with hy|hy
  ·exact b3 x hx y (List.mem_append_left _ hy)
  ·exact a3 x hx y hy
 ·rw[List.append_assoc];exact h2
structure ML (r:Keyed->Nat) (la lb out:List Keyed) (ia ib:Nat):Prop where
 perm:out.Perm (la.take ia++lb.take ib)
 sa:Srt r (out++la.drop ia)
 sb:Srt r (out++lb.drop ib)
theorem ML.pushB{la lb out:List Keyed}{ia ib k:Nat}(h:ML r la lb out ia ib)(hle:∀c∈(lb.drop ib).take k,∀y∈la.drop ia,r c<=r y):ML r la lb (out++(lb.drop ib).take k) ia (ib+k):=by
 have e:(lb.drop ib).take k++lb.drop (ib+k)=lb.drop ib:=by rw[<-List.drop_drop,List.take_append_drop]
 obtain⟨p1,p2⟩:=Ox (C:=(lb.drop ib).take k) (LB:=lb.drop (ib+k)) h.sa (by rw[e];exact h.sb) hle;refine⟨?_,p1,p2⟩;rw[List.take_add,<-List.append_assoc];exact h.perm.append_right _
theorem ML.pushA{la lb out:List Keyed}{ia ib k:Nat}(h:ML r la lb out ia ib)(hle:∀c∈(la.drop ia).take k,∀y∈lb.drop ib,r c<=r y):ML r la lb (out++(la.drop ia).take k) (ia+k) ib:=by
 have e:(la.drop ia).take k++la.drop (ia+k)=la.drop ia:=by rw[<-List.drop_drop,List.take_append_drop]
 obtain⟨p1,p2⟩:=Ox (C:=(la.drop ia).take k) (LB:=la.drop (ia+k)) h.sb (by rw[e];exact h.sa) hle;refine⟨?_,p2,p1⟩;rw[List.take_add,List.append_assoc];refine(h.perm.append_right _).trans ?_;rw[List.append_assoc];exact List.Perm.append_left _ List.perm_append_comm
structure Mg (r:Keyed->Nat) (la lb out:List Keyed):Prop where
 perm:out.Perm (la++lb)
 srt:Srt r out
theorem ML.doneB{la lb out:List Keyed}{ia ib:Nat}(h:ML r la lb out ia ib)(hb:lb.length<=ib):Mg r la lb (out++la.drop ia++lb.drop ib):=by
 have e:lb.drop ib=[]:=List.drop_eq_nil_of_le hb;rw[e,List.append_nil];refine⟨?_,h.sa⟩
 have:=h.perm.append_right (la.drop ia)
 rw[List.take_of_length_le hb]at this;refine this.trans ?_;rw[List.append_assoc];refine(List.Perm.append_left _ List.perm_append_comm).trans ?_;rw[<-List.append_assoc,List.take_append_drop]
theorem ML.doneA{la lb out:List Keyed}{ia ib:Nat}(h:ML r la lb out ia ib)(ha:la.length<=ia):Mg r la lb (out++la.drop ia++lb.drop ib):=by
 have e:la.drop ia=[]:=List.drop_eq_nil_of_le ha;rw[e,List.append_nil];refine⟨?_,h.sb⟩
 have:=h.perm.append_right (lb.drop ib)
 rw[List.take_of_length_le ha]at this;refine this.trans ?_;rw[List.append_assoc,List.take_append_drop]
theorem ML.lastA{la lb out:List Keyed}{ia ib:Nat}(h:ML r la lb out ia ib)(ha:ia+1=la.length)(hl:∀x,la[la.length-1]?=some x->∀y∈lb,r y<=r x):Mg r la lb (out++lb.drop ib++la.drop ia):=by
 have hd:∀x∈la.drop ia,∀y∈lb,r y<=r x:=fun x hx=>by
  obtain⟨i,hi⟩:=List.mem_iff_getElem?.mp hx;rw[List.getElem?_drop]at hi
  have:=(List.getElem?_eq_some_iff.mp hi).1
  have e:ia+i=la.length-1:=by lia
  rw[e]at hi;exact hl x hi
 constructor
 ·have:=(h.perm.append_right (lb.drop ib)).append_right (la.drop ia)
  refine this.trans ?_;rw[List.append_assoc,List.append_assoc,<-List.append_assoc (lb.take ib),List.take_append_drop];refine(List.Perm.append_left _ List.perm_append_comm).trans ?_;rw[<-List.append_assoc,List.take_append_drop]
 ·obtain⟨a1,a2,a3⟩:=List.pairwise_append.mp h.sa;obtain⟨b1,b2,b3⟩:=List.pairwise_append.mp h.sb;refine List.pairwise_append.mpr ⟨h.sb,a2,fun x hx y hy=>?_⟩;rcases List.mem_append.mp hx with hx|hx
  ·exact a3 x hx y hy
  ·exact hd y hy x (List.mem_of_mem_drop hx)
structure Gl (a₀:Array Keyed) (k0:SortKind) (st AN:SortSt):Prop where
 base:SB a₀ k0 AN
 arr:arrOf AN=arrOf st
 pend:pendingOf AN=pendingOf st
theorem Gl.refl{st:SortSt}(h:SB a₀ k0 st):Gl a₀ k0 st st:=⟨h,rfl,rfl⟩
theorem D9(a:Array Keyed)(i:Nat):(a.extract i).toList=a.toList.drop i:=by simp[List.take_of_length_le]
theorem FE(a:Array Keyed)(i k:Nat):(a.extract i (i+k)).toList=(a.toList.drop i).take k:=by simp
theorem IJ{a:Array Keyed}{i:Nat}(h:i<a.size):∃p,a[i]?=some p/\a.toList[i]?=some p/\p∈a.toList/\a.toList.drop i=p::a.toList.drop (i+1):=by
 have hl:i<a.toList.length:=by rw[Array.length_toList];exact h
 refine⟨a.toList[i],?_,List.getElem?_eq_getElem hl,List.getElem_mem hl,List.drop_eq_getElem_cons hl⟩;rw[<-Array.getElem?_toList];exact List.getElem?_eq_getElem hl
theorem GD{X Y:List Keyed}(h:Srt r (X++Y)):Srt r Y:=(List.pairwise_append.mp h).2.1
structure Hid (P:Prop):Prop where
 h:P
theorem IK{P Q:Prop}(c:Hid P->Q)(k:P):Q:=c ⟨k⟩
theorem Pc(hc:CmpOk prog w A s a₀ r k0){st:SortSt}(hB:SB a₀ k0 st){a b:Array Keyed}(ha:∀p∈a.toList,p∈a₀.toList)(hb:∀p∈b.toList,p∈a₀.toList)(sa:Srt r a.toList)(sb:Srt r b.toList)(za:1<=a.size)(zb:1<=b.size)(hf:∀x y,a[0]?=some x->b[0]?=some y->r y<=r x)(hl:∀x,a.toList[a.toList.length-1]?=some x->∀y∈b.toList,r y<=r x){Q:Array Keyed->SortSt->Prop}(h:∀out AN,Mg r a.toList b.toList out.toList->Gl a₀ k0 st AN->Q out AN):wpS (model prog w) A E s (O6 a b) Q st:=by
 unfold O6;refine wpS_bind (wpS_lift (wpAny_rule ⟨rfl,?_⟩));have dX:a.toList.length=a.size:=Array.length_toList;have rN:b.toList.length=b.size:=Array.length_toList;obtain⟨y0,lV,sL,rR,kh⟩:=IJ (a:=b) (i:=0) (by lia);obtain⟨x0,Yc,Rb,Ud,fi⟩:=IJ (a:=a) (i:=0) (by lia);rw[List.drop_zero]at kh fi;have kP:ML r a.toList b.toList (#[y0]:Array Keyed).toList 0 1:=by
  refine⟨?_,?_,?_⟩
  ·rw[kh];simp
  ·show Srt r ([y0]++a.toList.drop 0);rw[List.drop_zero];refine List.pairwise_append.mpr ⟨List.pairwise_singleton _ _,sa,fun u hu v hv=>?_⟩;rw[List.mem_singleton.mp hu];have h0:=hf x0 y0 Yc lV;rw[fi]at hv sa;rcases List.mem_cons.mp hv with rfl|hv
   ·exact h0
   ·exact Nat.le_trans h0 ((List.pairwise_cons.mp sa).1 v hv)
  ·show Srt r ([y0]++b.toList.drop 1);have:[y0]++b.toList.drop (0+1)=b.toList:=kh.symm;rw[Nat.zero_add]at this;rw[this];exact sb
 refine wpS_bind (Aj lV ?_);dsimp only;have NU:∀{out:Array Keyed}{ia ib:Nat},ML r a.toList b.toList out.toList ia ib->b.size<=ib->Mg r a.toList b.toList (out++a.extract ia++b.extract ib).toList:=fun hm hb=>by
  rw[Array.toList_append,Array.toList_append,D9,D9];exact hm.doneB (by lia)
 have dB:∀{out:Array Keyed}{ia ib:Nat},ML r a.toList b.toList out.toList ia ib->a.size<=ia->Mg r a.toList b.toList (out++a.extract ia++b.extract ib).toList:=fun hm hb=>by
  rw[Array.toList_append,Array.toList_append,D9,D9];exact hm.doneA (by lia)
 have NK:∀{out:Array Keyed}{ia ib:Nat},ML r a.toList b.toList out.toList ia ib->ia+1=a.size->Mg r a.toList b.toList (out++b.extract ib++a.extract ia).toList:=fun hm hb=>by
  rw[Array.toList_append,Array.toList_append,D9,D9];exact hm.lastA (by lia) hl
 have pB:∀{out:Array Keyed}{ia ib:Nat}{p:Keyed},ML r a.toList b.toList out.toList ia ib->b.toList.drop ib=p::b.toList.drop (ib+1)->(∀y∈a.toList.drop ia,r p<=r y)->ML r a.toList b.toList (out.push p).toList ia (ib+1):=fun {out ia ib p} hm hd hle=>by
  have:=hm.pushB (k:=1) (fun c hc y hy=>by rw[hd]at hc;simp at hc;subst hc;exact hle y hy)
  rw[hd]at this;rw[Array.toList_push];simpa using this
 have pA:∀{out:Array Keyed}{ia ib:Nat}{p:Keyed},ML r a.toList b.toList out.toList ia ib->a.toList.drop ia=p::a.toList.drop (ia+1)->(∀y∈b.toList.drop ib,r p<=r y)->ML r a.toList b.toList (out.push p).toList (ia+1) ib:=fun {out ia ib p} hm hd hle=>by
  have:=hm.pushA (k:=1) (fun c hc y hy=>by rw[hd]at hc;simp at hc;subst hc;exact hle y hy)
  rw[hd]at this;rw[Array.toList_push];simpa using this
 by_cases LI:1=b.size
 ·rw[if_pos (by simpa using LI)];exact wpS_pure (h _ _ (NU kP (by lia)) (Gl.refl hB))
 rw[if_neg (by simpa using LI)];by_cases Ua:0+1=a.size
 ·rw[if_pos (by simpa using Ua)];exact wpS_pure (h _ _ (NK kP Ua) (Gl.refl hB))
 rw[if_neg (by simpa using Ua)];refine wpS_bind (wpS_get ?_);refine wpS_bind (wpS_mono (wpS_forRange (I:=fun x c AN=>∃out ia ib mg,c=(none,out,ia,ib,mg)/\Gl a₀ k0 st AN/\ML r a.toList b.toList out.toList ia ib/\ia+1<a.size/\ib<b.size/\x+1<=ia+ib)
  (Q:=fun c AN=>∃res rest,c=(some res,rest)/\Gl a₀ k0 st AN/\Mg r a.toList b.toList res.toList) ?_ ?_ ⟨_,_,_,_,rfl,Gl.refl hB,kP,by lia,by lia,by lia⟩) ?_)
 rotate_left
 ·rintro c AN ⟨out,ia,ib,mg,rfl,hG,hM,g1,g2,g3⟩;lia
 ·rintro c AN ⟨res,rest,rfl,hG,hM⟩;exact wpS_pure (h res AN hM hG)
 rintro x c BS _ _ ⟨out,ia,ib,mg,rfl,hG,hM,g1,g2,g3⟩;dsimp only;refine wpS_bind (wpS_mono (wpS_forRange (I:=fun y c AN=>∃Ex SQ RT ac bc,c=(none,Ex,SQ,RT,ac,bc)/\Gl a₀ k0 st AN/\ML r a.toList b.toList Ex.toList SQ RT/\SQ+1<a.size/\RT<b.size/\ia+ib+y<=SQ+RT)
  (Q:=fun c AN=>(∃Ex SQ RT ac bc,c=(none,Ex,SQ,RT,ac,bc)/\Gl a₀ k0 st AN/\ML r a.toList b.toList Ex.toList SQ RT/\SQ+1<a.size/\RT<b.size/\ia+ib+1<=SQ+RT)\/∃res rest,c=(some res,rest)/\Gl a₀ k0 st AN/\Mg r a.toList b.toList res.toList) ?_ ?_ ⟨_,_,_,_,_,rfl,hG,hM,g1,g2,by lia⟩) ?_)
 ·rintro y c Ci _ _ ⟨Ex,SQ,RT,ac,bc,rfl,Ei,hM1,q1,q2,q3⟩;obtain⟨u,Cw,ZZ,Lj,Tw⟩:=IJ (a:=b) (i:=RT) q2;obtain⟨v,WK,aA,bF,UG⟩:=IJ (a:=a) (i:=SQ) (by lia);dsimp only;refine wpS_bind (Aj Cw (wpS_bind (Aj WK (wpS_bind (Kg hc Ei.base (hb u Lj) (ha v bF) ?_)))));dsimp only;have WM:=GD hM1.sa;have WH:=GD hM1.sb;rw[UG]at WM;rw[Tw]at WH;by_cases Ar:r u<r v
  ·rw[decide_eq_true Ar,if_pos rfl];refine wpS_bind (Aj Cw ?_);have hM2:=pB hM1 Tw (fun z hz=>by
    rw[UG]at hz;rcases List.mem_cons.mp hz with rfl|hz
    ·lia
    ·exact Nat.le_trans (Nat.le_of_lt Ar) ((List.pairwise_cons.mp WM).1 z hz))
   try dsimp only
   by_cases e1:RT+1=b.size
   ·rw[if_pos (by simpa using e1)];exact wpS_pure (.inr ⟨_,_,rfl,Ei,NU hM2 (by lia)⟩)
   ·rw[if_neg (by simpa using e1)];by_cases e2:bc+1≥mg
    ·rw[if_pos e2];exact wpS_pure (.inl ⟨_,_,_,_,_,rfl,Ei,hM2,q1,by lia,by lia⟩)
    ·rw[if_neg e2];exact wpS_pure ⟨_,_,_,_,_,rfl,Ei,hM2,q1,by lia,by lia⟩
  ·rw[decide_eq_false Ar,if_neg (by decide)];refine wpS_bind (Aj WK ?_);have hM2:=pA hM1 UG (fun z hz=>by
    rw[Tw]at hz;rcases List.mem_cons.mp hz with rfl|hz
    ·lia
    ·have:=(List.pairwise_cons.mp WH).1 z hz
     unfold le at this;lia)
   try dsimp only
   by_cases e1:SQ+1+1=a.size
   ·rw[if_pos (by simpa using e1)];exact wpS_pure (.inr ⟨_,_,rfl,Ei,NK hM2 e1⟩)
   ·rw[if_neg (by simpa using e1)];by_cases e2:ac+1≥mg
    ·rw[if_pos e2];exact wpS_pure (.inl ⟨_,_,_,_,_,rfl,Ei,hM2,by lia,q2,by lia⟩)
    ·rw[if_neg e2];exact wpS_pure ⟨_,_,_,_,_,rfl,Ei,hM2,by lia,q2,by lia⟩
 ·rintro c AN ⟨Ex,SQ,RT,ac,bc,rfl,Ei,hM1,q1,q2,q3⟩;lia
 rintro c Ci (⟨Ex,SQ,RT,ac,bc,rfl,Ei,hM1,q1,q2,q3⟩|⟨res,rest,rfl,Ei,hM1⟩)
 rotate_left
 ·dsimp only;exact wpS_pure ⟨_,_,rfl,Ei,hM1⟩
 dsimp only;refine wpS_bind (wpS_lift (wpAny_rule ⟨rfl,?_⟩));refine wpS_bind (wpS_mono (wpS_forRange (I:=fun y c AN=>∃CF Gb Fo mg ac bc,c=(none,CF,Gb,Fo,mg,ac,bc)/\Gl a₀ k0 st AN/\ML r a.toList b.toList CF.toList Gb Fo/\Gb+1<a.size/\Fo<b.size/\ia+ib+1<=Gb+Fo)
  (Q:=fun c AN=>(∃CF Gb Fo mg ac bc,c=(none,CF,Gb,Fo,mg,ac,bc)/\Gl a₀ k0 st AN/\ML r a.toList b.toList CF.toList Gb Fo/\Gb+1<a.size/\Fo<b.size/\ia+ib+1<=Gb+Fo)\/∃res rest,c=(some res,rest)/\Gl a₀ k0 st AN/\Mg r a.toList b.toList res.toList) ?_ ?_ ⟨_,_,_,_,_,_,rfl,Ei,hM1,q1,q2,q3⟩) ?_)
 ·rintro y c GR _ _ ⟨CF,Gb,Fo,VU,fQ,gQ,rfl,Ep,hM2,w1,w2,w3⟩;obtain⟨u,Cw,ZZ,Lj,Tw⟩:=IJ (a:=b) (i:=Fo) w2;dsimp only;have NW:∀g,Gl a₀ k0 st (SortSt.mk' (kindOf GR) (arrOf GR) (pendingOf GR) g (failedOf GR)):=fun g=>⟨⟨Ep.base.perm,Ep.base.kind,Ep.base.failed⟩,Ep.arr,Ep.pend⟩;apply IK
  ·intro key;by_cases Qx:VU > 1
   ·rw[if_pos Qx];clear Qx;generalize VU-1=g;revert g;exact key.h
   ·rw[if_neg Qx];clear Qx;generalize VU=g;revert g;exact key.h
  intro g;apply IK;intro key;refine wpS_bind (wpS_modify ?_);refine wpS_bind (Aj Cw (wpS_bind (FO (base:=Gb) (n:=a.size-Gb) (hint:=0) hc (NW _).base (hb u Lj) ha (by lia) (by lia) (by rw[List.take_of_length_le (by simp)];exact GD hM2.sa) fun k hk NI Dr=>?_)));dsimp only;have dv:(a.toList.drop Gb).take (a.size-Gb)=a.toList.drop Gb:=List.take_of_length_le (by simp);rw[dv,List.drop_drop]at Dr;have WH:=GD hM2.sb;rw[Tw]at WH;have P6:=hM2.pushA (k:=k) fun c hc z hz=>by
   have e1:=NI c hc;rw[Tw]at hz;rcases List.mem_cons.mp hz with ez|hz
   ·rw[ez];exact e1
   ·exact Nat.le_trans e1 ((List.pairwise_cons.mp WH).1 z hz)
  have eo:(CF++a.extract Gb (Gb+k)).toList=CF.toList++(a.toList.drop Gb).take k:=by rw[Array.toList_append,FE]
  rw[<-eo]at P6
  ·by_cases UO:k > 0
   ·rw[if_pos UO];by_cases e1:Gb+k+1=a.size
    ·rw[if_pos (by simpa using e1)];exact wpS_pure (.inr ⟨_,_,rfl,NW _,NK P6 e1⟩)
    rw[if_neg (by simpa using e1)];by_cases e2:Gb+k=a.size
    ·rw[if_pos (by simpa using e2)];exact wpS_pure (.inr ⟨_,_,rfl,NW _,dB P6 (by lia)⟩)
    rw[if_neg (by simpa using e2)];have Xq:Gb+k+1<a.size/\ia+ib+1<=Gb+k+Fo:=by lia
    revert P6 Xq Dr;generalize CF++a.extract Gb (Gb+k)=Dh;generalize Gb+k=Zm;generalize k=X2;revert Dh Zm X2;exact key.h
   ·rw[if_neg UO];have UZ:k=0:=by lia
    have Xq:Gb+1<a.size/\ia+ib+1<=Gb+Fo:=by lia
    have iR:CF++a.extract Gb (Gb+0)=CF:=Array.toList_inj.mp (by rw[Array.toList_append,FE];simp);rw[UZ,iR,Nat.add_zero]at P6;rw[UZ,Nat.add_zero]at Dr;revert P6 Xq Dr;generalize CF=Dh;generalize Gb=Zm;generalize k=X2;revert Dh Zm X2;exact key.h
  intro Dh Zm X2 Dr P6 Xq;refine wpS_bind (Aj Cw ?_);have X4:=pB P6 Tw (fun z hz=>Nat.le_of_lt (Dr z hz));by_cases e3:Fo+1=b.size
  ·rw[if_pos (by simpa using e3)];exact wpS_pure (.inr ⟨_,_,rfl,NW _,NU X4 (by lia)⟩)
  rw[if_neg (by simpa using e3)];obtain⟨v,WK,aA,bF,UG⟩:=IJ (a:=a) (i:=Zm) (by lia);apply IK;intro key;refine wpS_bind (Aj WK (wpS_bind (Fb (base:=Fo+1) (n:=b.size-(Fo+1)) (hint:=0) hc (NW _).base (ha v bF) hb (by lia) (by lia) (by rw[List.take_of_length_le (by simp)];exact GD X4.sb) fun k' DP Oq NB=>?_)));dsimp only;have iZ:(b.toList.drop (Fo+1)).take (b.size-(Fo+1))=b.toList.drop (Fo+1):=List.take_of_length_le (by simp);rw[iZ,List.drop_drop]at NB;have WM:=GD X4.sa;rw[UG]at WM;have Pz:=X4.pushB (k:=k') fun c hc z hz=>by
   have e1:=Oq c hc;rw[UG]at hz;rcases List.mem_cons.mp hz with ez|hz
   ·rw[ez];exact Nat.le_of_lt e1
   ·exact Nat.le_trans (Nat.le_of_lt e1) ((List.pairwise_cons.mp WM).1 z hz)
  have iu:(Dh.push u++b.extract (Fo+1) (Fo+1+k')).toList=(Dh.push u).toList++(b.toList.drop (Fo+1)).take k':=by rw[Array.toList_append,FE]
  rw[<-iu]at Pz
  ·by_cases hk0':k' > 0
   ·rw[if_pos hk0'];by_cases e4:Fo+1+k'=b.size
    ·rw[if_pos (by simpa using e4)];exact wpS_pure (.inr ⟨_,_,rfl,NW _,NU Pz (by lia)⟩)
    rw[if_neg (by simpa using e4)];have WN:Fo+1+k'<b.size/\ia+ib+1<=Zm+(Fo+1+k'):=by lia
    revert Pz WN NB;generalize Dh.push u++b.extract (Fo+1) (Fo+1+k')=Mu;generalize Fo+1+k'=iG;generalize k'=ZS;revert Mu iG ZS;exact key.h
   ·rw[if_neg hk0'];have UZ:k'=0:=by lia
    have WN:Fo+1<b.size/\ia+ib+1<=Zm+(Fo+1):=by lia
    have cR:Dh.push u++b.extract (Fo+1) (Fo+1+0)=Dh.push u:=Array.toList_inj.mp (by rw[Array.toList_append,FE];simp);rw[UZ,cR,Nat.add_zero]at Pz;rw[UZ,Nat.add_zero]at NB;revert Pz WN NB;generalize Dh.push u=Mu;generalize Fo+1=iG;generalize k'=ZS;revert Mu iG ZS;exact key.h
  intro Mu iG ZS NB Pz WN;refine wpS_bind (Aj WK ?_);have c7:=pA Pz UG (fun z hz=>NB z hz);by_cases e5:Zm+1+1=a.size
  ·rw[if_pos (by simpa using e5)];exact wpS_pure (.inr ⟨_,_,rfl,NW _,NK c7 e5⟩)
  rw[if_neg (by simpa using e5)];split
  ·exact wpS_pure (.inl ⟨_,_,_,_,_,_,rfl,NW _,c7,by lia,WN.1,by lia⟩)
  ·exact wpS_pure ⟨_,_,_,_,_,_,rfl,NW _,c7,by lia,WN.1,by lia⟩
 ·rintro c AN ⟨CF,Gb,Fo,VU,fQ,gQ,rfl,Ep,hM2,w1,w2,w3⟩;exact .inl ⟨_,_,_,_,_,_,rfl,Ep,hM2,w1,w2,w3⟩
 ·rintro c GR (⟨CF,Gb,Fo,VU,fQ,gQ,rfl,Ep,hM2,w1,w2,w3⟩|⟨res,rest,rfl,Ep,hM2⟩)
  ·dsimp only;refine wpS_bind (wpS_modify (wpS_pure ⟨_,_,_,_,rfl,⟨⟨Ep.base.perm,Ep.base.kind,Ep.base.failed⟩,Ep.arr,Ep.pend⟩,hM2,w1,w2,by lia⟩))
  ·dsimp only;exact wpS_pure ⟨_,_,rfl,Ep,hM2⟩
structure MH (r:Keyed->Nat) (la lb O:List Keyed) (na nb:Nat):Prop where
 perm:O.Perm (la.drop na++lb.drop nb)
 sa:Srt r (la.take na++O)
 sb:Srt r (lb.take nb++O)
theorem MJ{X Y C O:List Keyed}(h1:Srt r (Y++O))(h2:Srt r ((X++C)++O))(h3:∀y∈Y,∀c∈C,r y<=r c):Srt r (Y++(C++O))/\Srt r (X++(C++O)):=by
 rw[List.append_assoc]at h2;refine⟨?_,h2⟩;obtain⟨a1,a2,a3⟩:=List.pairwise_append.mp h1;obtain⟨b1,b2,b3⟩:=List.pairwise_append.mp h2;refine List.pairwise_append.mpr ⟨a1,b2,fun x hx y hy=>?_⟩;rcases List.mem_append.mp hy with hy|hy
 ·exact h3 x hx y hy
 ·exact a3 x hx y hy
theorem Eg(l:List Keyed){k n:Nat}(h:k<=n):l.take k++(l.take n).drop k=l.take n:=by
 have:=List.take_append_drop k (l.take n)
 rwa [List.take_take,Nat.min_eq_left h]at this
theorem Jq(l:List Keyed){k n:Nat}(h:k<=n):(l.take n).drop k++l.drop n=l.drop k:=by
 rw[List.drop_take];have e:l.drop n=(l.drop k).drop (n-k):=by rw[List.drop_drop];congr 1;lia
 rw[e,List.take_append_drop]
theorem MH.pushA{la lb O:List Keyed}{na nb k:Nat}(h:MH r la lb O na nb)(hk:k<=na)(hle:∀y∈lb.take nb,∀c∈(la.take na).drop k,r y<=r c):MH r la lb ((la.take na).drop k++O) k nb:=by obtain⟨p1,p2⟩:=MJ (X:=la.take k) (C:=(la.take na).drop k) h.sb (by rw[Eg la hk];exact h.sa) hle;refine⟨?_,p2,p1⟩;rw[<-Jq la hk,List.append_assoc];exact h.perm.append_left _
theorem MH.pushB{la lb O:List Keyed}{na nb k:Nat}(h:MH r la lb O na nb)(hk:k<=nb)(hle:∀y∈la.take na,∀c∈(lb.take nb).drop k,r y<=r c):MH r la lb ((lb.take nb).drop k++O) na k:=by obtain⟨p1,p2⟩:=MJ (X:=lb.take k) (C:=(lb.take nb).drop k) h.sa (by rw[Eg lb hk];exact h.sb) hle;refine⟨?_,p1,p2⟩;rw[<-Jq lb hk];refine(h.perm.append_left _).trans ?_;rw[<-List.append_assoc,<-List.append_assoc];exact List.perm_append_comm.append_right _
theorem MH.doneA{la lb O:List Keyed}{nb:Nat}(h:MH r la lb O 0 nb):Mg r la lb (la.take 0++lb.take nb++O):=by rw[List.take_zero,List.nil_append];refine⟨?_,h.sb⟩;refine(h.perm.append_left _).trans ?_;rw[List.drop_zero,<-List.append_assoc];refine(List.perm_append_comm.append_right _).trans ?_;rw[List.append_assoc,List.take_append_drop]
theorem MH.doneB{la lb O:List Keyed}{na:Nat}(h:MH r la lb O na 0):Mg r la lb (la.take na++lb.take 0++O):=by rw[List.take_zero,List.append_nil];refine⟨?_,h.sa⟩;refine(h.perm.append_left _).trans ?_;rw[List.drop_zero,<-List.append_assoc,List.take_append_drop]
theorem MH.firstB{la lb O:List Keyed}{na:Nat}(h:MH r la lb O na 1)(hf:∀y∈lb.take 1,∀x∈la,r y<=r x):Mg r la lb (lb.take 1++la.take na++O):=by
 constructor
 ·rw[List.append_assoc];refine((h.perm.append_left _).append_left _).trans ?_;rw[<-List.append_assoc (la.take na),List.take_append_drop,<-List.append_assoc];refine(List.perm_append_comm.append_right _).trans ?_;rw[List.append_assoc,List.take_append_drop]
 ·rw[List.append_assoc];obtain⟨b1,b2,b3⟩:=List.pairwise_append.mp h.sb;refine List.pairwise_append.mpr ⟨b1,h.sa,fun x hx y hy=>?_⟩;rcases List.mem_append.mp hy with hy|hy
  ·exact hf x hx y (List.mem_of_mem_take hy)
  ·exact b3 x hx y hy
theorem EB(a:Array Keyed)(n:Nat):(a.extract 0 n).toList=a.toList.take n:=by simp
theorem C2(a:Array Keyed)(k n:Nat):(a.extract k n).toList=(a.toList.take n).drop k:=by simp[List.drop_take]
theorem Fg{a:Array Keyed}{n:Nat}(h:n<a.size):∃p,a[n]?=some p/\p∈a.toList/\(a.toList.take (n+1)).drop n=[p]/\a.toList.take (n+1)=a.toList.take n++[p]:=by
 have hl:n<a.toList.length:=by rw[Array.length_toList];exact h
 refine⟨a.toList[n],?_,List.getElem_mem hl,?_,?_⟩
 ·rw[<-Array.getElem?_toList];exact List.getElem?_eq_getElem hl
 ·rw[List.drop_take,show n+1-n=1 by lia,List.drop_eq_getElem_cons hl];rfl
 ·rw[List.take_add_one,List.getElem?_eq_getElem hl];rfl
theorem Pb(hc:CmpOk prog w A s a₀ r k0){st:SortSt}(hB:SB a₀ k0 st){a b:Array Keyed}(ha:∀p∈a.toList,p∈a₀.toList)(hb:∀p∈b.toList,p∈a₀.toList)(sa:Srt r a.toList)(sb:Srt r b.toList)(za:1<=a.size)(zb:1<=b.size)(hf:∀y∈b.toList.take 1,∀x∈a.toList,r y<=r x)(hl:∀x∈a.toList.drop (a.size-1),∀y∈b.toList,r y<=r x){Q:Array Keyed->SortSt->Prop}(h:∀out AN,Mg r a.toList b.toList out.toList->Gl a₀ k0 st AN->Q out AN):wpS (model prog w) A E s (Oc a b) Q st:=by
 unfold Oc;refine wpS_bind (wpS_lift (wpAny_rule ⟨rfl,?_⟩));have dX:a.toList.length=a.size:=Array.length_toList;have rN:b.toList.length=b.size:=Array.length_toList;obtain⟨x0,Yc,Rb,Ud,fi⟩:=Fg (a:=a) (n:=a.size-1) (by lia);rw[show a.size-1+1=a.size by lia,List.take_of_length_le (by lia)]at Ud fi;have kC:MH r a.toList b.toList (#[x0]:Array Keyed).toList.reverse (a.size-1) b.size:=by
  refine⟨?_,?_,?_⟩
  ·rw[Ud,List.drop_eq_nil_of_le (by lia)];simp
  ·show Srt r (a.toList.take (a.size-1)++[x0]);rw[<-fi];exact sa
  ·show Srt r (b.toList.take b.size++[x0]);rw[List.take_of_length_le (by lia)];refine List.pairwise_append.mpr ⟨sb,List.pairwise_singleton _ _,fun u hu v hv=>?_⟩;rw[List.mem_singleton.mp hv];exact hl x0 (by rw[Ud];simp) u hu
 have NU:∀{out:Array Keyed}{na nb:Nat},MH r a.toList b.toList out.toList.reverse na nb->na=0->Mg r a.toList b.toList (a.extract 0 na++b.extract 0 nb++out.reverse).toList:=fun hm e=>by
  subst e;rw[Array.toList_append,Array.toList_append,EB,EB,Array.toList_reverse];exact hm.doneA
 have dB:∀{out:Array Keyed}{na nb:Nat},MH r a.toList b.toList out.toList.reverse na nb->nb=0->Mg r a.toList b.toList (a.extract 0 na++b.extract 0 nb++out.reverse).toList:=fun hm e=>by
  subst e;rw[Array.toList_append,Array.toList_append,EB,EB,Array.toList_reverse];exact hm.doneB
 have NK:∀{out:Array Keyed}{na nb:Nat},MH r a.toList b.toList out.toList.reverse na nb->nb=1->Mg r a.toList b.toList (b.extract 0 nb++a.extract 0 na++out.reverse).toList:=fun hm e=>by
  subst e;rw[Array.toList_append,Array.toList_append,EB,EB,Array.toList_reverse];exact hm.firstB hf
 have pA:∀{out:Array Keyed}{na nb:Nat}{p:Keyed},MH r a.toList b.toList out.toList.reverse (na+1) nb->(a.toList.take (na+1)).drop na=[p]->(∀y∈b.toList.take nb,r y<=r p)->MH r a.toList b.toList (out.push p).toList.reverse na nb:=fun {out na nb p} hm hd hle=>by
  have:=hm.pushA (k:=na) (by lia) (fun y hy c hc=>by rw[hd]at hc;rw[List.mem_singleton.mp hc];exact hle y hy)
  rw[hd]at this;rw[Array.toList_push,List.reverse_append];exact this
 have pB:∀{out:Array Keyed}{na nb:Nat}{p:Keyed},MH r a.toList b.toList out.toList.reverse na (nb+1)->(b.toList.take (nb+1)).drop nb=[p]->(∀y∈a.toList.take na,r y<=r p)->MH r a.toList b.toList (out.push p).toList.reverse na nb:=fun {out na nb p} hm hd hle=>by
  have:=hm.pushB (k:=nb) (by lia) (fun y hy c hc=>by rw[hd]at hc;rw[List.mem_singleton.mp hc];exact hle y hy)
  rw[hd]at this;rw[Array.toList_push,List.reverse_append];exact this
 refine wpS_bind (Aj Yc ?_);dsimp only;by_cases Ua:a.size-1=0
 ·rw[if_pos (by simpa using Ua)];exact wpS_pure (h _ _ (NU kC Ua) (Gl.refl hB))
 rw[if_neg (by simpa using Ua)];by_cases LI:b.size=1
 ·rw[if_pos (by simpa using LI)];exact wpS_pure (h _ _ (NK kC LI) (Gl.refl hB))
 rw[if_neg (by simpa using LI)];refine wpS_bind (wpS_get ?_);refine wpS_bind (wpS_mono (wpS_forRange (I:=fun x c AN=>∃na nb out mg,c=(none,na,nb,out,mg)/\Gl a₀ k0 st AN/\MH r a.toList b.toList out.toList.reverse na nb/\1<=na/\2<=nb/\na<a.size/\nb<=b.size/\na+nb+x+1<=a.size+b.size)
  (Q:=fun c AN=>∃res rest,c=(some res,rest)/\Gl a₀ k0 st AN/\Mg r a.toList b.toList res.toList) ?_ ?_ ⟨_,_,_,_,rfl,Gl.refl hB,kC,by lia,by lia,by lia,by lia,by lia⟩) ?_)
 rotate_left
 ·rintro c AN ⟨na,nb,out,mg,rfl,hG,hM,g1,g2,g3,g4,g5⟩;lia
 ·rintro c AN ⟨res,rest,rfl,hG,hM⟩;exact wpS_pure (h res AN hM hG)
 rintro x c BS _ _ ⟨na,nb,out,mg,rfl,hG,hM,g1,g2,g3,g4,g5⟩;dsimp only;refine wpS_bind (wpS_mono (wpS_forRange (I:=fun y c AN=>∃P1 P5 Ex ac bc,c=(none,P1,P5,Ex,ac,bc)/\Gl a₀ k0 st AN/\MH r a.toList b.toList Ex.toList.reverse P1 P5/\1<=P1/\2<=P5/\P1<a.size/\P5<=b.size/\P1+P5+y<=na+nb)
  (Q:=fun c AN=>(∃P1 P5 Ex ac bc,c=(none,P1,P5,Ex,ac,bc)/\Gl a₀ k0 st AN/\MH r a.toList b.toList Ex.toList.reverse P1 P5/\1<=P1/\2<=P5/\P1<a.size/\P5<=b.size/\P1+P5+1<=na+nb)\/∃res rest,c=(some res,rest)/\Gl a₀ k0 st AN/\Mg r a.toList b.toList res.toList) ?_ ?_ ⟨_,_,_,_,_,rfl,hG,hM,g1,g2,g3,g4,by lia⟩) ?_)
 ·rintro y c Ci _ _ ⟨P1,P5,Ex,ac,bc,rfl,Ei,hM1,q1,q2,q3,q4,q5⟩;obtain⟨n,rfl⟩:∃n,P1=n+1:=⟨P1-1,by lia⟩;obtain⟨m,rfl⟩:∃m,P5=m+1:=⟨P5-1,by lia⟩;obtain⟨u,Cw,ZZ,Lj,Tw⟩:=Fg (a:=b) (n:=m) (by lia);obtain⟨v,WK,aA,bF,UG⟩:=Fg (a:=a) (n:=n) (by lia);dsimp only;simp only[Nat.add_sub_cancel];refine wpS_bind (Aj Cw (wpS_bind (Aj WK (wpS_bind (Kg hc Ei.base (hb u ZZ) (ha v aA) ?_)))));dsimp only;have WM:=(List.pairwise_append.mp hM1.sa).1;have WH:=(List.pairwise_append.mp hM1.sb).1;rw[UG]at WM;rw[Tw]at WH;by_cases Ar:r u<r v
  ·rw[decide_eq_true Ar,if_pos rfl];refine wpS_bind (Aj WK ?_);have hM2:=pA hM1 bF (fun z hz=>by
    rw[Tw]at hz;rcases List.mem_append.mp hz with hz|hz
    ·exact Nat.le_trans ((List.pairwise_append.mp WH).2.2 z hz u (by simp)) (Nat.le_of_lt Ar)
    ·rw[List.mem_singleton.mp hz];lia)
   by_cases e1:n=0
   ·rw[if_pos (by simpa using e1)];exact wpS_pure (.inr ⟨_,_,rfl,Ei,NU hM2 e1⟩)
   ·rw[if_neg (by simpa using e1)];by_cases e2:ac+1≥mg
    ·rw[if_pos e2];exact wpS_pure (.inl ⟨_,_,_,_,_,rfl,Ei,hM2,by lia,by lia,by lia,by lia,by lia⟩)
    ·rw[if_neg e2];exact wpS_pure ⟨_,_,_,_,_,rfl,Ei,hM2,by lia,by lia,by lia,by lia,by lia⟩
  ·rw[decide_eq_false Ar,if_neg (by decide)];refine wpS_bind (Aj Cw ?_);have hM2:=pB hM1 Lj (fun z hz=>by
    rw[UG]at hz;rcases List.mem_append.mp hz with hz|hz
    ·have:=(List.pairwise_append.mp WM).2.2 z hz v (by simp)
     unfold le at this;lia
    ·rw[List.mem_singleton.mp hz];lia)
   by_cases e1:m=1
   ·rw[if_pos (by simpa using e1)];exact wpS_pure (.inr ⟨_,_,rfl,Ei,NK hM2 e1⟩)
   ·rw[if_neg (by simpa using e1)];by_cases e2:bc+1≥mg
    ·rw[if_pos e2];exact wpS_pure (.inl ⟨_,_,_,_,_,rfl,Ei,hM2,by lia,by lia,by lia,by lia,by lia⟩)
    ·rw[if_neg e2];exact wpS_pure ⟨_,_,_,_,_,rfl,Ei,hM2,by lia,by lia,by lia,by lia,by lia⟩
 ·rintro c AN ⟨P1,P5,Ex,ac,bc,rfl,Ei,hM1,q1,q2,q3,q4,q5⟩;lia
 rintro c Ci (⟨P1,P5,Ex,ac,bc,rfl,Ei,hM1,q1,q2,q3,q4,q5⟩|⟨res,rest,rfl,Ei,hM1⟩)
 rotate_left
 ·dsimp only;exact wpS_pure ⟨_,_,rfl,Ei,hM1⟩
 dsimp only;refine wpS_bind (wpS_lift (wpAny_rule ⟨rfl,?_⟩));refine wpS_bind (wpS_mono (wpS_forRange (I:=fun y c AN=>∃Hn P4 CF mg ac bc,c=(none,Hn,P4,CF,mg,ac,bc)/\Gl a₀ k0 st AN/\MH r a.toList b.toList CF.toList.reverse Hn P4/\1<=Hn/\2<=P4/\Hn<a.size/\P4<=b.size/\Hn+P4+1<=na+nb)
  (Q:=fun c AN=>(∃Hn P4 CF mg ac bc,c=(none,Hn,P4,CF,mg,ac,bc)/\Gl a₀ k0 st AN/\MH r a.toList b.toList CF.toList.reverse Hn P4/\1<=Hn/\2<=P4/\Hn<a.size/\P4<=b.size/\Hn+P4+1<=na+nb)\/∃res rest,c=(some res,rest)/\Gl a₀ k0 st AN/\Mg r a.toList b.toList res.toList) ?_ ?_ ⟨_,_,_,_,_,_,rfl,Ei,hM1,q1,q2,q3,q4,q5⟩) ?_)
 ·rintro y c GR _ _ ⟨Hn,P4,CF,VU,fQ,gQ,rfl,Ep,hM2,w1,w2,w3,w4,w5⟩;obtain⟨m,rfl⟩:∃m,P4=m+1:=⟨P4-1,by lia⟩;obtain⟨u,Cw,ZZ,Lj,Tw⟩:=Fg (a:=b) (n:=m) (by lia);have NW:∀g,Gl a₀ k0 st (SortSt.mk' (kindOf GR) (arrOf GR) (pendingOf GR) g (failedOf GR)):=fun g=>⟨⟨Ep.base.perm,Ep.base.kind,Ep.base.failed⟩,Ep.arr,Ep.pend⟩;dsimp only;simp only[Nat.add_sub_cancel];apply IK
  ·intro key;by_cases Qx:VU > 1
   ·rw[if_pos Qx];clear Qx;generalize VU-1=g;revert g;exact key.h
   ·rw[if_neg Qx];clear Qx;generalize VU=g;revert g;exact key.h
  intro g;apply IK;intro key;refine wpS_bind (wpS_modify ?_);refine wpS_bind (Aj Cw (wpS_bind (FO (base:=0) (n:=Hn) (hint:=Hn-1) hc (NW _).base (hb u ZZ) ha (by lia) (by lia) (by rw[List.drop_zero];exact(List.pairwise_append.mp hM2.sa).1) fun k hk NI Dr=>?_)));dsimp only;rw[List.drop_zero]at NI Dr;have WH:=(List.pairwise_append.mp hM2.sb).1;rw[Tw]at WH;have P6:=hM2.pushA (k:=k) hk fun z hz c hc=>by
   have e1:=Dr c hc;rw[Tw]at hz;rcases List.mem_append.mp hz with hz|hz
   ·exact Nat.le_trans ((List.pairwise_append.mp WH).2.2 z hz u (by simp)) (Nat.le_of_lt e1)
   ·rw[List.mem_singleton.mp hz];exact Nat.le_of_lt e1
  have eo:(CF++(a.extract k Hn).reverse).toList.reverse=(a.toList.take Hn).drop k++CF.toList.reverse:=by
   rw[Array.toList_append,List.reverse_append,Array.toList_reverse,List.reverse_reverse,C2]
  rw[<-eo]at P6
  ·by_cases UO:Hn-k > 0
   ·rw[if_pos UO];by_cases e1:k=0
    ·rw[if_pos (by simpa using e1)];exact wpS_pure (.inr ⟨_,_,rfl,NW _,NU P6 e1⟩)
    rw[if_neg (by simpa using e1)];have Xq:1<=k/\k<a.size/\k+(m+1)+1<=na+nb:=by lia
    generalize Hn-k=X2;revert P6 Xq NI;generalize CF++(a.extract k Hn).reverse=Dh;generalize k=dP;revert Dh dP X2;exact key.h
   ·rw[if_neg UO];have UZ:k=Hn:=by lia
    have Xq:1<=Hn/\Hn<a.size/\Hn+(m+1)+1<=na+nb:=by lia
    have iR:CF++(a.extract Hn Hn).reverse=CF:=Array.toList_inj.mp (by rw[Array.toList_append,Array.toList_reverse,C2];simp);rw[UZ,iR]at P6;rw[UZ]at NI;generalize Hn-k=X2;revert P6 Xq NI;generalize CF=Dh;generalize Hn=dP;revert Dh dP X2;exact key.h
  intro X2 Dh dP NI P6 Xq;refine wpS_bind (Aj Cw ?_);have X4:=pB P6 Lj (fun z hz=>NI z hz);by_cases e3:m=1
  ·rw[if_pos (by simpa using e3)];exact wpS_pure (.inr ⟨_,_,rfl,NW _,NK X4 e3⟩)
  rw[if_neg (by simpa using e3)];obtain⟨n,rfl⟩:∃n,dP=n+1:=⟨dP-1,by lia⟩;obtain⟨v,WK,aA,bF,UG⟩:=Fg (a:=a) (n:=n) (by lia);simp only[Nat.add_sub_cancel];apply IK;intro key;refine wpS_bind (Aj WK (wpS_bind (Fb (base:=0) (n:=m) (hint:=m-1) hc (NW _).base (ha v aA) hb (by lia) (by lia) (by rw[List.drop_zero];exact(List.pairwise_append.mp X4.sb).1) fun k' DP Oq NB=>?_)));dsimp only;rw[List.drop_zero]at Oq NB;have WM:=(List.pairwise_append.mp X4.sa).1;rw[UG]at WM;have Pz:=X4.pushB (k:=k') DP fun z hz c hc=>by
   have e1:=NB c hc;rw[UG]at hz;rcases List.mem_append.mp hz with hz|hz
   ·exact Nat.le_trans ((List.pairwise_append.mp WM).2.2 z hz v (by simp)) e1
   ·rw[List.mem_singleton.mp hz];exact e1
  have iu:(Dh.push u++(b.extract k' m).reverse).toList.reverse=(b.toList.take m).drop k'++(Dh.push u).toList.reverse:=by
   rw[Array.toList_append,List.reverse_append,Array.toList_reverse,List.reverse_reverse,C2]
  rw[<-iu]at Pz
  ·by_cases hk0':m-k' > 0
   ·rw[if_pos hk0'];by_cases e4:k'=1
    ·rw[if_pos (by simpa using e4)];exact wpS_pure (.inr ⟨_,_,rfl,NW _,NK Pz e4⟩)
    rw[if_neg (by simpa using e4)];by_cases e5:k'=0
    ·rw[if_pos (by simpa using e5)];exact wpS_pure (.inr ⟨_,_,rfl,NW _,dB Pz e5⟩)
    rw[if_neg (by simpa using e5)];have WN:2<=k'/\k'≤b.size/\n+k'+1<=na+nb:=by lia
    generalize m-k'=ZS;revert Pz WN Oq;generalize Dh.push u++(b.extract k' m).reverse=Mu;generalize k'=Xj;revert Mu Xj ZS;exact key.h
   ·rw[if_neg hk0'];have UZ:k'=m:=by lia
    have WN:2<=m/\m<=b.size/\n+m+1<=na+nb:=by lia
    have cR:Dh.push u++(b.extract m m).reverse=Dh.push u:=Array.toList_inj.mp (by rw[Array.toList_append,Array.toList_reverse,C2];simp);rw[UZ,cR]at Pz;rw[UZ]at Oq;generalize m-k'=ZS;revert Pz WN Oq;generalize Dh.push u=Mu;generalize m=Xj;revert Mu Xj ZS;exact key.h
  intro ZS Mu Xj Oq Pz WN;refine wpS_bind (Aj WK ?_);have c7:=pA Pz bF (fun z hz=>Nat.le_of_lt (Oq z hz));by_cases e6:n=0
  ·rw[if_pos (by simpa using e6)];exact wpS_pure (.inr ⟨_,_,rfl,NW _,NU c7 e6⟩)
  rw[if_neg (by simpa using e6)];split
  ·exact wpS_pure (.inl ⟨_,_,_,_,_,_,rfl,NW _,c7,by lia,by lia,by lia,by lia,by lia⟩)
  ·exact wpS_pure ⟨_,_,_,_,_,_,rfl,NW _,c7,by lia,by lia,by lia,by lia,by lia⟩
 ·rintro c AN ⟨Hn,P4,CF,VU,fQ,gQ,rfl,Ep,hM2,w1,w2,w3,w4,w5⟩;exact .inl ⟨_,_,_,_,_,_,rfl,Ep,hM2,w1,w2,w3,w4,w5⟩
 ·rintro c GR (⟨Hn,P4,CF,VU,fQ,gQ,rfl,Ep,hM2,w1,w2,w3,w4,w5⟩|⟨res,rest,rfl,Ep,hM2⟩)
  ·dsimp only;refine wpS_bind (wpS_modify (wpS_pure ⟨_,_,_,_,rfl,⟨⟨Ep.base.perm,Ep.base.kind,Ep.base.failed⟩,Ep.arr,Ep.pend⟩,hM2,w1,w2,w3,w4,by lia⟩))
  ·dsimp only;exact wpS_pure ⟨_,_,rfl,Ep,hM2⟩
abbrev seg(l:List Keyed)(i n:Nat):List Keyed:=(l.drop i).take n
def Runs(r:Keyed->Nat)(l:List Keyed):Nat->List (Nat×Nat×Nat)->Nat->Prop
 |b,[],lo=>b=lo
 |b,(st,n,_)::rest,lo=>st=b/\1<=n/\Srt r (seg l b n)/\Runs r l (b+n) rest lo
theorem Runs.le{l:List Keyed}:∀{p:List (Nat×Nat×Nat)}{b lo:Nat},Runs r l b p lo->b+p.length<=lo
 |[],_,_,h=>by rw[Runs]at h;subst h;simp
 |(st,n,_)::rest,b,lo,h=>by
  rw[Runs]at h
  have:=Runs.le h.2.2.2
  rw[List.length_cons];lia
theorem Runs.same{l l':List Keyed}:∀{p:List (Nat×Nat×Nat)}{b lo:Nat},Runs r l b p lo->(∀i n,b<=i->i+n<=lo->seg l' i n=seg l i n)->Runs r l' b p lo
 |[],_,_,h,_=>h
 |(st,n,_)::rest,b,lo,h,e=>by
  rw[Runs]at h ⊢
  have:=Runs.le h.2.2.2
  exact⟨h.1,h.2.1,by rw[e b n (Nat.le_refl _) (by lia)];exact h.2.2.1,Runs.same h.2.2.2 fun i n' h1 h2=>e i n' (by lia) h2⟩
theorem Runs.snoc{l:List Keyed}:∀{p:List (Nat×Nat×Nat)}{b lo n pw:Nat},Runs r l b p lo->1<=n->Srt r (seg l lo n)->Runs r l b (p++[(lo,n,pw)]) (lo+n)
 |[],b,lo,n,pw,h,h1,h2=>by
  rw[Runs]at h;subst h;exact⟨rfl,h1,h2,rfl⟩
 |(st,m,_)::rest,b,lo,n,pw,h,h1,h2=>by
  rw[Runs]at h;exact⟨h.1,h.2.1,h.2.2.1,Runs.snoc h.2.2.2 h1 h2⟩
theorem Runs.merge{l l':List Keyed}:∀{pre:List (Nat×Nat×Nat)}{b lo sa na pa sb nb pb:Nat}{post:List (Nat×Nat×Nat)},Runs r l b (pre++(sa,na,pa)::(sb,nb,pb)::post) lo →
  (∀i n,i+n<=sa->seg l' i n=seg l i n)->(∀i n,sa+na+nb<=i->seg l' i n=seg l i n)->Srt r (seg l' sa (na+nb))->Runs r l' b (pre++(sa,na+nb,pa)::post) lo
 |[],b,lo,sa,na,pa,sb,nb,pb,post,h,h1,h2,h3=>by
  rw[List.nil_append,Runs,Runs]at h;obtain⟨rfl,g1,g2,rfl,g3,g4,g5⟩:=h;refine⟨rfl,by lia,h3,?_⟩;rw[Nat.add_assoc]at g5;exact g5.same fun i n q1 q2=>h2 i n (by lia)
 |(st,n,_)::rest,b,lo,sa,na,pa,sb,nb,pb,post,h,h1,h2,h3=>by
  rw[List.cons_append,Runs]at h;obtain⟨rfl,g1,g2,g3⟩:=h;have qe:st+n<=sa:=by
   have:∀{pre:List (Nat×Nat×Nat)}{b:Nat},Runs r l b (pre++(sa,na,pa)::(sb,nb,pb)::post) lo->b<=sa:=by
    intro pre
    induction pre with
    |nil=>intro b h;rw[List.nil_append,Runs]at h;lia
    |cons x r' ih=>intro b h;obtain⟨x1,x2,x3⟩:=x;rw[List.cons_append,Runs]at h;have:=ih h.2.2.2;lia
   exact this g3
  refine⟨rfl,g1,by rw[h1 st n qe];exact g2,Runs.merge g3 h1 h2 h3⟩
theorem Runs.at{l:List Keyed}:∀{pre:List (Nat×Nat×Nat)}{b lo sa na pa sb nb pb:Nat}{post:List (Nat×Nat×Nat)},Runs r l b (pre++(sa,na,pa)::(sb,nb,pb)::post) lo →
  b<=sa/\sb=sa+na/\1<=na/\1<=nb/\sb+nb<=lo/\Srt r (seg l sa na)/\Srt r (seg l sb nb)
 |[],b,lo,sa,na,pa,sb,nb,pb,post,h=>by
  rw[List.nil_append,Runs,Runs]at h;obtain⟨rfl,g1,g2,rfl,g3,g4,g5⟩:=h
  have:=g5.le
  exact⟨Nat.le_refl _,rfl,g1,g3,by lia,g2,g4⟩
 |(st,n,_)::rest,b,lo,sa,na,pa,sb,nb,pb,post,h=>by
  rw[List.cons_append,Runs]at h;obtain⟨rfl,g1,g2,g3⟩:=h;obtain⟨q1,q2⟩:=Runs.at g3;exact⟨by lia,q2⟩
theorem Pw(off:Nat):∀(ms:List Keyed)(j:Nat)(xs:Array Keyed)(k:Nat),off+j+ms.length<=xs.size →
  ((ms.zipIdx j).foldl (fun a (p:Keyed×Nat)=>a.setIfInBounds (off+p.2) p.1) xs)[k]?=if off+j<=k/\k<off+j+ms.length then ms[k-(off+j)]? else xs[k]?
 |[],j,xs,k,_=>by simp;lia
 |m::ms,j,xs,k,h=>by
  rw[List.zipIdx_cons,List.foldl_cons];rw[List.length_cons]at h;rw[Pw off ms (j+1) _ k (by rw[Array.size_setIfInBounds];lia)];rw[List.length_cons];by_cases h1:off+(j+1)<=k/\k<off+(j+1)+ms.length
  ·rw[if_pos h1,if_pos (by lia)];obtain⟨q,hq⟩:∃q,k-(off+j)=q+1:=⟨k-(off+j)-1,by lia⟩;rw[hq,List.getElem?_cons_succ];congr 1;lia
  ·rw[if_neg h1,Array.getElem?_setIfInBounds];by_cases h2:off+j=k
   ·rw[if_pos h2,if_pos (by lia),if_pos (by lia)];have:k-(off+j)=0:=by lia
    rw[this];rfl
   ·rw[if_neg h2,if_neg (by lia)]
theorem TZ(off:Nat)(ms:List Keyed)(xs:Array Keyed)(h:off+ms.length<=xs.size):((ms.zipIdx).foldl (fun a (p:Keyed×Nat)=>a.setIfInBounds (off+p.2) p.1) xs).toList=xs.toList.take off++ms++xs.toList.drop (off+ms.length):=by
 have hl:xs.toList.length=xs.size:=Array.length_toList;refine List.ext_getElem? fun k=>?_;rw[Array.getElem?_toList,Pw off ms 0 xs k (by lia),Nat.add_zero,List.append_assoc];by_cases h1:k<off
 ·rw[if_neg (by lia),List.getElem?_append_left (by rw[List.length_take];lia),List.getElem?_take,if_pos h1,Array.getElem?_toList]
 ·rw[List.getElem?_append_right (by rw[List.length_take];lia),List.length_take,show min off xs.toList.length=off by lia];by_cases h2:k<off+ms.length
  ·rw[if_pos (by lia),List.getElem?_append_left (by lia)]
  ·rw[if_neg (by lia),List.getElem?_append_right (by lia),List.getElem?_drop,Array.getElem?_toList];congr 1;lia
theorem X1{l M:List Keyed}{i0 j0:Nat}(hi:i0<=l.length)(i n:Nat)(h:i+n<=i0):seg (l.take i0++M++l.drop j0) i n=seg l i n:=by unfold seg;rw[List.append_assoc,List.drop_append_of_le_length (by rw[List.length_take];lia),List.take_append_of_le_length (by rw[List.length_drop,List.length_take];lia),List.drop_take,List.take_take];congr 1;lia
theorem PV{l M:List Keyed}{i0 j0:Nat}(hi:i0+M.length=j0)(hj:j0<=l.length)(i n:Nat)(h:j0<=i):seg (l.take i0++M++l.drop j0) i n=seg l i n:=by
 unfold seg;have e:(l.take i0++M).length=j0:=by rw[List.length_append,List.length_take];lia
 rw[List.drop_append,List.drop_eq_nil_of_le (by lia),List.nil_append,e,List.drop_drop];congr 2;lia
theorem ZI{l M:List Keyed}{sa k i0 j0 t:Nat}(h0:i0=sa+k)(hi:i0+M.length=j0)(hj:j0+t<=l.length):seg (l.take i0++M++l.drop j0) sa (k+M.length+t)=seg l sa k++M++seg l j0 t:=by
 unfold seg;subst h0;rw[List.append_assoc,List.drop_append_of_le_length (by rw[List.length_take];lia),List.drop_take,show sa+k-sa=k by lia];have hP:((l.drop sa).take k).length=k:=by rw[List.length_take,List.length_drop];lia
 generalize (l.drop sa).take k=P0 at *;subst hP;rw[Nat.add_assoc,List.take_length_add_append,List.take_length_add_append,List.append_assoc]
theorem YN{xs:Array Keyed}{i n:Nat}{p:Keyed}(h:xs[i]?=some p)(hn:1<=n):∃t,seg xs.toList i n=p::t:=by
 have hp:xs.toList[i]?=some p:=by rw[Array.getElem?_toList];exact h
 obtain⟨hl,e⟩:=List.getElem?_eq_some_iff.mp hp;unfold seg;rw[List.drop_eq_getElem_cons hl,e];obtain⟨m,rfl⟩:∃m,n=m+1:=⟨n-1,by lia⟩;exact⟨_,List.take_succ_cons ..⟩
theorem Yo{M:Model}{σ:Type}{x:σ}{Q:PUnit->σ->Prop}{st:σ}(h:Q ⟨⟩ x):wpS M A E s (set x:StateT σ Sem PUnit) Q st:=by unfold wpS;rw[StateT.run_set];exact wpAny_pure ⟨rfl,h⟩
theorem Qd{l M:List Keyed}{sa na nb k t:Nat}{de eS:Keyed}(sA:Srt r (seg l sa na))(sB:Srt r (seg l (sa+na) nb))(hk:k<=na)(ht:t<=nb)(h1:∀c∈seg l sa k,r c<=r de)(h2:∀c∈(seg l sa na).drop k,r c<=r eS)(h3:∀c∈seg l (sa+na) nb,r de<=r c)(h4:∀c∈(seg l (sa+na) nb).drop t,r eS<=r c)(hM:Mg r ((seg l sa na).drop k) (seg l (sa+na) t) M):Srt r (seg l sa k++M++seg l (sa+na+t) (nb-t)):=by
 have eA:seg l sa k++(seg l sa na).drop k=seg l sa na:=by
  unfold seg
  have:=List.take_append_drop k ((l.drop sa).take na)
  rwa [List.take_take,Nat.min_eq_left hk]at this
 have eT:(seg l (sa+na) nb).drop t=seg l (sa+na+t) (nb-t):=by
  unfold seg;rw[List.drop_take,List.drop_drop]
 have eB:seg l (sa+na) t++(seg l (sa+na) nb).drop t=seg l (sa+na) nb:=by
  unfold seg
  have:=List.take_append_drop t ((l.drop (sa+na)).take nb)
  rwa [List.take_take,Nat.min_eq_left ht]at this
 rw[<-eT];rw[<-eA]at sA;have k9:=h3;rw[<-eB]at sB k9;obtain⟨a1,a2,a3⟩:=List.pairwise_append.mp sA;obtain⟨b1,b2,b3⟩:=List.pairwise_append.mp sB;have mm:∀c∈M,c∈(seg l sa na).drop k\/c∈seg l (sa+na) t:=fun c hc=>List.mem_append.mp (hM.perm.mem_iff.mp hc);rw[List.append_assoc];refine List.pairwise_append.mpr ⟨a1,List.pairwise_append.mpr ⟨hM.srt,b2,fun x hx y hy=>?_⟩,fun x hx y hy=>?_⟩
 ·rcases mm x hx with hx|hx
  ·exact Nat.le_trans (h2 x hx) (h4 y hy)
  ·exact b3 x hx y hy
 ·have Rb:=h1 x hx;rcases List.mem_append.mp hy with hy|hy
  ·rcases mm y hy with hy|hy
   ·exact a3 x hx y hy
   ·exact Nat.le_trans Rb (k9 y (List.mem_append_left _ hy))
  ·exact Nat.le_trans Rb (k9 y (List.mem_append_right _ hy))
theorem Iw(hc:CmpOk prog w A s a₀ r k0){st:SortSt}(hB:SB a₀ k0 st){i lo:Nat}{pre post:List (Nat×Nat×Nat)}{sa na pa sb nb pb:Nat}(hp:(pendingOf st).toList=pre++(sa,na,pa)::(sb,nb,pb)::post)(hi:pre.length=i)(qa:lo<=a₀.size)(hR:Runs r (arrOf st).toList 0 (pendingOf st).toList lo){Q:Bool->SortSt->Prop}(h:∀AN,SB a₀ k0 AN->(pendingOf AN).toList=pre++(sa,na+nb,pa)::post->Runs r (arrOf AN).toList 0 (pendingOf AN).toList lo->(∀i n,lo<=i->seg (arrOf AN).toList i n=seg (arrOf st).toList i n)->Q true AN):wpS (model prog w) A E s (mergeAt' i) Q st:=by
 have fN:=hR;rw[hp]at fN;obtain⟨_,rfl,z1,z2,z3,sA,sB⟩:=Runs.at fN;have hsz:=hB.size;have hl:(arrOf st).toList.length=a₀.size:=by rw[Array.length_toList];exact hsz
 have hpl:(pendingOf st).toList.length=(pendingOf st).size:=Array.length_toList;have e1:(pendingOf st)[i]?=some (sa,na,pa):=by
  rw[<-Array.getElem?_toList,hp,List.getElem?_append_right (by lia),hi,Nat.sub_self];rfl
 have e2:(pendingOf st)[i+1]?=some (sa+na,nb,pb):=by
  rw[<-Array.getElem?_toList,hp,List.getElem?_append_right (by lia),hi,show i+1-i=1 by lia];rfl
 have OE:(((pendingOf st).setIfInBounds i (sa,na+nb,pa)).eraseIdxIfInBounds (i+1)).toList=pre++(sa,na+nb,pa)::post:=by
  rw[Array.toList_eraseIdxIfInBounds,Array.toList_setIfInBounds,hp,<-hi];rw[List.set_append_right _ _ (Nat.le_refl _),Nat.sub_self,List.set_cons_zero,List.eraseIdx_append_of_length_le (by lia),show pre.length+1-pre.length=1 by lia];rfl
 have P2:∀p∈(arrOf st).toList,p∈a₀.toList:=fun p hp=>hB.mem hp;obtain⟨kb,Tq⟩:∃p,(arrOf st)[sa+na]?=some p:=⟨_,getElem?_pos _ (sa+na) (by lia)⟩;unfold mergeAt';refine wpS_bind (wpS_get ?_);rw[e1,e2];dsimp only;refine wpS_bind (Yo ?_);have Pf:SB a₀ k0 (SortSt.mk' (kindOf st) (arrOf st) (((pendingOf st).setIfInBounds i (sa,na+nb,pa)).eraseIdxIfInBounds (i+1)) (gallopOf st) (failedOf st)):=⟨hB.perm,hB.kind,hB.failed⟩;obtain⟨tB,qM⟩:=YN (n:=nb) Tq z2;have Uj:∀c∈seg (arrOf st).toList (sa+na) nb,r kb<=r c:=fun c Ra=>by
  rw[qM]at Ra sB;rcases List.mem_cons.mp Ra with rfl|Ra
  ·exact Nat.le_refl _
  ·exact(List.pairwise_cons.mp sB).1 c Ra
 refine wpS_bind (Aj Tq (wpS_bind (FO (base:=sa) (n:=na) (hint:=0) hc Pf (hB.memAt Tq) P2 (by lia) (by lia) sA fun k hk NI Dr=>?_)));dsimp only;by_cases UO:na-k=0
 ·rw[if_pos (by simpa using UO)];obtain rfl:k=na:=by lia
  refine wpS_pure (h _ Pf OE ?_ fun _ _ _=>rfl);show Runs r (arrOf st).toList 0 (((pendingOf st).setIfInBounds i (sa,k+nb,pa)).eraseIdxIfInBounds (i+1)).toList lo;rw[OE];refine Runs.merge fN (fun _ _ _=>rfl) (fun _ _ _=>rfl) ?_;have e:seg (arrOf st).toList sa (k+nb)=seg (arrOf st).toList sa k++seg (arrOf st).toList (sa+k) nb:=by
   unfold seg;rw[List.take_add,List.drop_drop]
  rw[e];exact List.pairwise_append.mpr ⟨sA,sB,fun x hx y hy=>Nat.le_trans (NI x hx) (Uj y hy)⟩
 rw[if_neg (by simpa using UO)];obtain⟨ka,gV⟩:∃p,(arrOf st)[sa+k+(na-k)-1]?=some p:=⟨_,getElem?_pos _ (sa+k+(na-k)-1) (by lia)⟩;refine wpS_bind (Aj gV (wpS_bind (Fb (base:=sa+na) (n:=nb) (hint:=nb-1) hc Pf (hB.memAt gV) P2 (by lia) (by lia) sB fun t ht me jz=>?_)));dsimp only;have Z3:∀c∈(seg (arrOf st).toList sa na).drop k,r c<=r ka:=fun c Ra=>by
  have dv:(seg (arrOf st).toList sa na)[na-1]?=some ka:=by
   unfold seg;rw[List.getElem?_take,if_pos (by lia),List.getElem?_drop,Array.getElem?_toList];rw[<-gV];congr 1;lia
  obtain⟨j,hj⟩:=List.mem_iff_getElem?.mp Ra;rw[List.getElem?_drop]at hj;have gr:=(List.getElem?_eq_some_iff.mp hj).1;have AY:(seg (arrOf st).toList sa na).length<=na:=by unfold seg;rw[List.length_take];lia
  by_cases hje:k+j=na-1
  ·rw[hje,dv]at hj;cases hj;exact Nat.le_refl _
  ·obtain⟨q1,q2⟩:=List.getElem?_eq_some_iff.mp dv;obtain⟨q3,q4⟩:=List.getElem?_eq_some_iff.mp hj
   have:=List.pairwise_iff_getElem.mp sA (k+j) (na-1) q3 q1 (by lia)
   rw[q2,q4]at this;exact this
 by_cases ec:t=0
 ·rw[if_pos (by simpa using ec)];subst ec;refine wpS_pure (h _ Pf OE ?_ fun _ _ _=>rfl);show Runs r (arrOf st).toList 0 (((pendingOf st).setIfInBounds i (sa,na+nb,pa)).eraseIdxIfInBounds (i+1)).toList lo;rw[OE];refine Runs.merge fN (fun _ _ _=>rfl) (fun _ _ _=>rfl) ?_;have e:seg (arrOf st).toList sa (na+nb)=seg (arrOf st).toList sa na++seg (arrOf st).toList (sa+na) nb:=by
   unfold seg;rw[List.take_add,List.drop_drop]
  rw[e];rw[List.drop_zero]at jz;have eA:seg (arrOf st).toList sa k++(seg (arrOf st).toList sa na).drop k=seg (arrOf st).toList sa na:=by
   unfold seg
   have:=List.take_append_drop k (((arrOf st).toList.drop sa).take na)
   rwa [List.take_take,Nat.min_eq_left hk]at this
  refine List.pairwise_append.mpr ⟨sA,sB,fun x hx y hy=>?_⟩;rw[<-eA]at hx;rcases List.mem_append.mp hx with hx|hx
  ·exact Nat.le_trans (NI x hx) (Uj y hy)
  ·exact Nat.le_trans (Z3 x hx) (jz y hy)
 rw[if_neg (by simpa using ec)];have ex:((arrOf st).extract (sa+k) (sa+na)).toList=(seg (arrOf st).toList sa na).drop k:=by
  rw[C2];unfold seg;rw[List.drop_take,List.drop_take,List.drop_drop];congr 1;lia
 have ey:((arrOf st).extract (sa+na) (sa+na+t)).toList=seg (arrOf st).toList (sa+na) t:=FE _ _ _;have sx:Srt r ((arrOf st).extract (sa+k) (sa+na)).toList:=by rw[ex];exact sA.sublist (List.drop_sublist _ _)
 have sy:Srt r ((arrOf st).extract (sa+na) (sa+na+t)).toList:=by
  rw[ey];have:seg (arrOf st).toList (sa+na) t=(seg (arrOf st).toList (sa+na) nb).take t:=by unfold seg;rw[List.take_take,Nat.min_eq_left ht]
  rw[this];exact sB.sublist (List.take_sublist _ _)
 have lx:((arrOf st).extract (sa+k) (sa+na)).toList.length=na-k:=by rw[ex];unfold seg;rw[List.length_drop,List.length_take,List.length_drop];lia
 have ly:((arrOf st).extract (sa+na) (sa+na+t)).toList.length=t:=by rw[ey];unfold seg;rw[List.length_take,List.length_drop];lia
 have zx:1<=((arrOf st).extract (sa+k) (sa+na)).size:=by rw[<-Array.length_toList,lx];lia
 have zy:1<=((arrOf st).extract (sa+na) (sa+na+t)).size:=by rw[<-Array.length_toList,ly];lia
 have nG:∀p∈((arrOf st).extract (sa+k) (sa+na)).toList,p∈a₀.toList:=fun p gO=>by
  rw[ex]at gO;exact P2 p (List.mem_of_mem_drop (List.mem_of_mem_take (List.mem_of_mem_drop gO)))
 have m5:∀p∈((arrOf st).extract (sa+na) (sa+na+t)).toList,p∈a₀.toList:=fun p gO=>by
  rw[ey]at gO;exact P2 p (List.mem_of_mem_drop (List.mem_of_mem_take gO))
 have U4:∀y,((arrOf st).extract (sa+na) (sa+na+t)).toList[0]?=some y->y=kb:=fun y hy=>by
  rw[ey]at hy;unfold seg at hy;rw[List.getElem?_take,if_pos (by lia),List.getElem?_drop,Nat.add_zero,Array.getElem?_toList,Tq]at hy;cases hy;rfl
 have finish:∀(out:Array Keyed)(AN:SortSt),Mg r ((arrOf st).extract (sa+k) (sa+na)).toList ((arrOf st).extract (sa+na) (sa+na+t)).toList out.toList →
   Gl a₀ k0 (SortSt.mk' (kindOf st) (arrOf st) (((pendingOf st).setIfInBounds i (sa,na+nb,pa)).eraseIdxIfInBounds (i+1)) (gallopOf st) (failedOf st)) AN →
   Q (failedOf AN).isNone (SortSt.mk' (kindOf AN) (out.toList.zipIdx.foldl (fun a (p:Keyed×Nat)=>a.setIfInBounds (sa+k+p.2) p.1) (arrOf AN)) (pendingOf AN) (gallopOf AN) (failedOf AN)):=by
  intro out AN hM hG;have i9:arrOf AN=arrOf st:=hG.arr;have Uu:(pendingOf AN).toList=pre++(sa,na+nb,pa)::post:=by rw[hG.pend];exact OE
  have og:out.toList.length=na-k+t:=by rw[hM.perm.length_eq,List.length_append,lx,ly]
  have fB:(failedOf AN).isNone=true:=by rw[hG.base.failed];rfl
  rw[fB];have QY:(out.toList.zipIdx.foldl (fun a (p:Keyed×Nat)=>a.setIfInBounds (sa+k+p.2) p.1) (arrOf AN)).toList=(arrOf st).toList.take (sa+k)++out.toList++(arrOf st).toList.drop (sa+na+t):=by
   rw[i9,TZ _ _ _ (by lia),og];congr 2;lia
  refine h _ ⟨?_,hG.base.kind,hG.base.failed⟩ Uu ?_ fun j n hj=>?_
  ·refine Array.Perm.trans ?_ hB.perm;rw[Array.perm_iff_toList_perm];show(out.toList.zipIdx.foldl (fun a (p:Keyed×Nat)=>a.setIfInBounds (sa+k+p.2) p.1) (arrOf AN)).toList.Perm (arrOf st).toList;rw[QY];have aQ:(arrOf st).toList=(arrOf st).toList.take (sa+k)++(((arrOf st).extract (sa+k) (sa+na)).toList++((arrOf st).extract (sa+na) (sa+na+t)).toList)++(arrOf st).toList.drop (sa+na+t):=by
    rw[C2,C2,<-List.append_assoc,Eg _ (by lia),Eg _ (by lia),List.take_append_drop]
   conv=>rhs;rw[aQ]
   exact((hM.perm.append_left _).append_right _)
  ·show Runs r (out.toList.zipIdx.foldl (fun a (p:Keyed×Nat)=>a.setIfInBounds (sa+k+p.2) p.1) (arrOf AN)).toList 0 (pendingOf AN).toList lo;rw[QY,Uu];refine Runs.merge fN (fun j n hj=>?_) (fun j n hj=>?_) ?_
   ·exact X1 (by lia) j n (by lia)
   ·exact PV (by lia) (by lia) j n (by lia)
   ·have:=ZI (l:=(arrOf st).toList) (M:=out.toList) (sa:=sa) (k:=k) (i0:=sa+k) (j0:=sa+na+t) (t:=nb-t) rfl (by lia) (by lia)
    rw[show k+out.toList.length+(nb-t)=na+nb by lia]at this;rw[this];refine Qd sA sB hk ht NI Z3 Uj jz ?_;rw[<-ex,<-ey];exact hM
  ·show seg (out.toList.zipIdx.foldl (fun a (p:Keyed×Nat)=>a.setIfInBounds (sa+k+p.2) p.1) (arrOf AN)).toList j n=_;rw[QY];exact PV (by lia) (by lia) j n (by lia)
 by_cases hle:na-k<=t
 ·rw[if_pos hle];refine wpS_bind (Pc hc Pf nG m5 sx sy zx zy ?_ ?_ fun out AN hM hG=>wpS_bind (wpS_modify (wpS_bind (wpS_get (wpS_pure (finish out AN hM hG))))))
  ·intro x y hx hy;have qs:=U4 y (by rw[Array.getElem?_toList];exact hy);subst qs;have:x∈((arrOf st).extract (sa+k) (sa+na)).toList:=Array.mem_toList_iff.mpr (Array.mem_of_getElem? hx);rw[ex]at this;exact Nat.le_of_lt (Dr x this)
  ·intro x hx y hy;rw[ey]at hy;have lG:x=ka:=by
    rw[lx,C2,List.getElem?_drop,List.getElem?_take]at hx;rw[if_pos (by lia),Array.getElem?_toList]at hx;rw[show sa+k+(na-k-1)=sa+k+(na-k)-1 by lia,gV]at hx;cases hx;rfl
   subst lG;exact Nat.le_of_lt (me y hy)
 ·rw[if_neg hle];refine wpS_bind (Pb hc Pf nG m5 sx sy zx zy ?_ ?_ fun out AN hM hG=>wpS_bind (wpS_modify (wpS_bind (wpS_get (wpS_pure (finish out AN hM hG))))))
  ·intro y hy x hx;obtain⟨j,hj⟩:=List.mem_iff_getElem?.mp hy;rw[List.getElem?_take]at hj;split at hj
   ·rename_i di;obtain rfl:j=0:=by lia
    have:=U4 y hj
    subst this;rw[ex]at hx;exact Nat.le_of_lt (Dr x hx)
   ·cases hj
  ·intro x hx y hy;rw[ey]at hy;obtain⟨j,hj⟩:=List.mem_iff_getElem?.mp hx;rw[List.getElem?_drop,<-Array.length_toList,lx]at hj;have gr:=(List.getElem?_eq_some_iff.mp hj).1;rw[lx]at gr;obtain rfl:j=0:=by lia
   have lG:x=ka:=by
    rw[Nat.add_zero,C2,List.getElem?_drop,List.getElem?_take,if_pos (by lia),Array.getElem?_toList]at hj;rw[show sa+k+(na-k-1)=sa+k+(na-k)-1 by lia,gV]at hj;cases hj;rfl
   subst lG;exact Nat.le_of_lt (me y hy)
theorem Lk{xs:Array Keyed}{i n:Nat}(h:Up r xs i (i+n)):Srt r (seg xs.toList i n):=by
 rw[Srt,List.pairwise_iff_getElem];intro j k hj hk sE;have e1:(seg xs.toList i n)[j]?=some (seg xs.toList i n)[j]:=List.getElem?_eq_getElem hj;have e2:(seg xs.toList i n)[k]?=some (seg xs.toList i n)[k]:=List.getElem?_eq_getElem hk;have UZ:k<n:=by unfold seg at hk;rw[List.length_take]at hk;lia
 have f1:xs.toList[i+j]?=some (seg xs.toList i n)[j]:=by
  rw[<-e1];unfold seg;rw[List.getElem?_take,if_pos (by lia),List.getElem?_drop]
 have f2:xs.toList[i+k]?=some (seg xs.toList i n)[k]:=by
  rw[<-e2];unfold seg;rw[List.getElem?_take,if_pos (by lia),List.getElem?_drop]
 have:=h (i+j) (i+k) (by lia) (by lia) (by lia)
 rw[DY f1,DY f2]at this;exact this
theorem OL{xs ys:Array Keyed}{lo:Nat}(h:∀k,k<lo->ys[k]?=xs[k]?)(i n:Nat)(hi:i+n<=lo):seg ys.toList i n=seg xs.toList i n:=by
 refine List.ext_getElem? fun k=>?_;unfold seg;rw[List.getElem?_take,List.getElem?_take];split
 ·rw[List.getElem?_drop,List.getElem?_drop,Array.getElem?_toList,Array.getElem?_toList];exact h _ (by lia)
 ·rfl
theorem WQ{p:List (Nat×Nat×Nat)}{i:Nat}(h:i+1<p.length):∃pre sa na pa sb nb pb post,p=pre++(sa,na,pa)::(sb,nb,pb)::post/\pre.length=i:=by refine⟨p.take i,p[i].1,p[i].2.1,p[i].2.2,p[i+1].1,p[i+1].2.1,p[i+1].2.2,p.drop (i+2),?_,by rw[List.length_take];lia⟩;have e1:=List.drop_eq_getElem_cons (show i<p.length by lia);have e2:=List.drop_eq_getElem_cons h;show p=p.take i++p[i]::p[i+1]::p.drop (i+2);rw[<-e2,<-e1,List.take_append_drop]
theorem Runs.last{l:List Keyed}:∀{p:List (Nat×Nat×Nat)}{b lo:Nat}{f:Nat×Nat×Nat->Nat×Nat×Nat},Runs r l b p lo->(∀x,(f x).1=x.1/\(f x).2.1=x.2.1)->∀i,Runs r l b (p.modify i f) lo
 |[],_,_,_,h,_,i=>by cases i<;>simpa using h
 |(st,n,q)::rest,b,lo,f,h,hf,0=>by
  rw[Runs]at h;rw[List.modify_zero_cons];obtain⟨e1,e2⟩:=hf (st,n,q);generalize f (st,n,q)=y at *;obtain⟨y1,y2,y3⟩:=y;simp only at e1 e2;subst e1;subst e2;exact h
 |(st,n,q)::rest,b,lo,f,h,hf,i+1=>by
  rw[Runs]at h;rw[List.modify_succ_cons];exact⟨h.1,h.2.1,h.2.2.1,Runs.last h.2.2.2 hf i⟩
theorem wpS_sortRuns(hc:CmpOk prog w A s a₀ r k0){st:SortSt}(hB:SB a₀ k0 st)(hp:pendingOf st=#[]){Q:Unit->SortSt->Prop}(h:∀AN,SB a₀ k0 AN->Srt r (arrOf AN).toList->Q () AN):wpS (model prog w) A E s sortRuns' Q st:=by
 have hsz:=hB.size;unfold sortRuns';refine wpS_bind (wpS_get ?_);dsimp only;rw[show(arrOf st).size=a₀.size from hsz];refine wpS_bind (wpS_mono (wpS_forRange (I:=fun x c AN=>∃lo,c=(none,lo)/\SB a₀ k0 AN/\lo<=a₀.size/\(x<=lo\/lo=a₀.size)/\Runs r (arrOf AN).toList 0 (pendingOf AN).toList lo)
  (Q:=fun c AN=>c=(none,a₀.size)/\SB a₀ k0 AN/\Runs r (arrOf AN).toList 0 (pendingOf AN).toList a₀.size) ?_ ?_ ⟨0,rfl,hB,by lia,.inl (by lia),by rw[hp];rfl⟩) ?_)
 rotate_left
 ·rintro c AN ⟨lo,rfl,jK,h1,h2,hR⟩;obtain rfl:lo=a₀.size:=by lia
  exact⟨rfl,jK,hR⟩
 ·rintro c AN ⟨rfl,jK,hR⟩;dsimp only;refine wpS_bind (wpS_mono (wpS_forRange (I:=fun x c AN=>c=(none,())/\SB a₀ k0 AN/\Runs r (arrOf AN).toList 0 (pendingOf AN).toList a₀.size/\((pendingOf AN).size<=1\/(pendingOf AN).size+x<=a₀.size))
   (Q:=fun c AN=>c=(none,())/\SB a₀ k0 AN/\Runs r (arrOf AN).toList 0 (pendingOf AN).toList a₀.size/\(pendingOf AN).size<=1) ?_ ?_ ⟨rfl,jK,hR,.inr (by have:=hR.le;rw[Array.length_toList]at this;lia)⟩) ?_)
  ·rintro x c BS _ _ ⟨rfl,Pf,W4,gY⟩;refine wpS_bind (wpS_get ?_);by_cases hle:(pendingOf BS).size<=1
   ·rw[if_pos hle];exact wpS_pure ⟨rfl,Pf,W4,hle⟩
   rw[if_neg hle];have hpl:(pendingOf BS).toList.length=(pendingOf BS).size:=Array.length_toList;have go:∀i,i+1<(pendingOf BS).size->wpS (model prog w) A E s (mergeAt' i) (fun b Ci=>b=true/\SB a₀ k0 Ci/\Runs r (arrOf Ci).toList 0 (pendingOf Ci).toList a₀.size/\(pendingOf Ci).size+1=(pendingOf BS).size) BS:=by
    intro i hi;obtain⟨pre,sa,na,pa,sb,nb,pb,post,e,NH⟩:=WQ (p:=(pendingOf BS).toList) (i:=i) (by lia);refine Iw hc Pf e NH (Nat.le_refl _) W4 fun Ci kK JU bh _=>⟨rfl,kK,bh,?_⟩;have e2:(pendingOf Ci).size=(pre++(sa,na+nb,pa)::post).length:=by rw[<-JU,Array.length_toList]
    rw[e2,<-hpl,e];simp only[List.length_append,List.length_cons];lia
   have ix:∀(c:Prop) [Decidable c],(if c then(pendingOf BS).size-2-1 else(pendingOf BS).size-2)+1<(pendingOf BS).size:=by
    intro c _;split<;>lia
   refine wpS_bind (wpS_mono (go _ ?_) ?_)
   ·split<;>exact ix _
   ·rintro b Ci ⟨rfl,kK,bh,RF⟩;rw[if_neg (by decide)];exact wpS_pure ⟨rfl,kK,bh,by lia⟩
  ·rintro c BS ⟨rfl,Pf,W4,gY⟩;refine⟨rfl,Pf,W4,?_⟩;lia
  ·rintro c BS ⟨rfl,Pf,W4,gY⟩;refine wpS_pure (h BS Pf ?_);have hl:(arrOf BS).toList.length=a₀.size:=by rw[Array.length_toList];exact Pf.size
   have hpl:(pendingOf BS).toList.length=(pendingOf BS).size:=Array.length_toList;cases hq:(pendingOf BS).toList with
   |nil=>
    rw[hq,Runs]at W4;have:(arrOf BS).toList=[]:=List.eq_nil_of_length_eq_zero (by lia);rw[this];exact List.Pairwise.nil
   |cons q rest=>
    have:rest=[]:=by
     rw[hq,List.length_cons]at hpl;exact List.eq_nil_of_length_eq_zero (by lia)
    subst this;obtain⟨q1,q2,q3⟩:=q;rw[hq,Runs,Runs]at W4;obtain⟨rfl,_,g1,g2⟩:=W4;unfold seg at g1;rw[List.drop_zero,List.take_of_length_le (by lia)]at g1;exact g1
 rintro x c BS _ hx ⟨lo,rfl,Pf,h1,h2,W4⟩;dsimp only;by_cases JP:lo≥a₀.size
 ·rw[if_pos JP];obtain rfl:lo=a₀.size:=by lia
  exact wpS_pure ⟨rfl,Pf,W4⟩
 rw[if_neg JP];refine wpS_bind (M9 hc Pf (lo:=lo) (nrem:=a₀.size-lo) (by lia) (by lia) fun m Ci VL Xf LU ip=>?_);dsimp only;have bh:Runs r (arrOf Ci).toList 0 (pendingOf Ci).toList lo:=by
  rw[LU.pend];exact W4.same fun i n _ hi=>OL LU.low i n hi
 generalize (sortPriv% PySem.Builtin.minRun) a₀.size a₀.size 0=mr;by_cases hmr:m<mr
 case' pos=>
  rw[if_pos hmr];refine wpS_bind (wpS_lift (wpAny_rule ⟨rfl,?_⟩));refine wpS_bind (J6 hc LU.base (lo:=lo) (n:=min (a₀.size-lo) mr) (ok:=m) (by lia) (by lia) ip fun GR aO nK=>?_);rw[if_neg (by decide)];have df:1<=min (a₀.size-lo) mr:=by lia
  have aq:lo+min (a₀.size-lo) mr<=a₀.size:=by lia
  have iL:=Lk nK;have kg:=aO.base;have ja:Runs r (arrOf GR).toList 0 (pendingOf GR).toList lo:=by
   rw[aO.pend];exact bh.same fun i n _ hi=>OL aO.low i n hi
  clear nK aO;generalize min (a₀.size-lo) mr=n at *
 case' neg=>
  rw[if_neg hmr];have df:1<=m:=VL;have aq:lo+m<=a₀.size:=by lia
  have iL:=Lk ip;have kg:=LU.base;have ja:=bh;clear ip LU bh;generalize m=n at *;generalize Ci=GR at *
 all_goals
  have fin:∀Ii,SB a₀ k0 Ii->Runs r (arrOf Ii).toList 0 (pendingOf Ii).toList lo->Srt r (seg (arrOf Ii).toList lo n)->∃dj,((none:Option Unit),lo+n)=(none,dj)/\SB a₀ k0 (setPending Ii ((pendingOf Ii).push (lo,n,0)))/\dj<=a₀.size/\(x+1<=dj\/dj=a₀.size)/\Runs r (arrOf Ii).toList 0 ((pendingOf Ii).push (lo,n,0)).toList dj:=by
   intro Ii V9 aw W3;refine⟨lo+n,rfl,⟨V9.perm,V9.kind,V9.failed⟩,aq,.inl (by lia),?_⟩;rw[Array.toList_push];exact aw.snoc df W3
  refine wpS_bind (wpS_get ?_);cases hbk:(pendingOf GR).back? with
  |none=>
   dsimp only;exact wpS_bind (wpS_modify (wpS_pure (fin GR kg ja iL)))
  |some q=>
   obtain⟨s1,n1,p1⟩:=q;dsimp only;refine wpS_bind (wpS_mono (wpS_forRange (I:=fun _ c AN=>c=(none,())/\SB a₀ k0 AN/\Runs r (arrOf AN).toList 0 (pendingOf AN).toList lo/\Srt r (seg (arrOf AN).toList lo n))
    (Q:=fun c AN=>c=(none,())/\SB a₀ k0 AN/\Runs r (arrOf AN).toList 0 (pendingOf AN).toList lo/\Srt r (seg (arrOf AN).toList lo n)) ?_ (fun _ _ z=>z) ⟨rfl,kg,ja,iL⟩) ?_)
   ·rintro y c Ii _ _ ⟨rfl,V9,aw,W3⟩;refine wpS_bind (wpS_get ?_);by_cases hgt:(pendingOf Ii).size > 1
    ·rw[if_pos hgt];have hpl:(pendingOf Ii).toList.length=(pendingOf Ii).size:=Array.length_toList;obtain⟨pre,sa,na,pa,sb,nb,pb,post,e,NH⟩:=WQ (p:=(pendingOf Ii).toList) (i:=(pendingOf Ii).size-2) (by lia);have eg:(pendingOf Ii)[(pendingOf Ii).size-2]?=some (sa,na,pa):=by
      rw[<-Array.getElem?_toList,e,List.getElem?_append_right (by lia),NH,Nat.sub_self];rfl
     rw[eg];dsimp only;split
     ·exact wpS_pure ⟨rfl,V9,aw,W3⟩
     ·refine wpS_bind (Iw hc V9 e NH h1 aw fun bo qi r8 oW kO=>?_);rw[if_neg (by decide)];exact wpS_pure ⟨rfl,qi,oW,by rw[kO lo n (Nat.le_refl _)];exact W3⟩
    ·rw[if_neg hgt];exact wpS_pure ⟨rfl,V9,aw,W3⟩
   ·rintro c Ii ⟨rfl,V9,aw,W3⟩;dsimp only;refine wpS_bind (wpS_modify (wpS_bind (wpS_modify (wpS_pure (fin (setPending Ii ((pendingOf Ii).modify ((pendingOf Ii).size-1) fun x=>(x.1,x.2.1,_))) ⟨V9.perm,V9.kind,V9.failed⟩ ?_ W3)))));show Runs r (arrOf Ii).toList 0 ((pendingOf Ii).modify _ _).toList lo;rw[Array.toList_modify];refine Runs.last aw ?_ _;exact fun x=>⟨rfl,rfl⟩
end
end TS
namespace TF
open PySem PySem.Spec L2
open PyProof.Rows hiding St RelV
mutual
def CK(st:Bool):Dat->Dat->Bool
 |.int a,.int b=>if st then decide (a<b)else decide (a<=b)
 |.tup l,.tup m=>Bl st l m
 |_,_=>false
def Bl(st:Bool):List Dat->List Dat->Bool
 |[],[]=>!st
 |[],_::_=>true
 |_::_,[]=>false
 |x::l,y::m=>if eqD x y then Bl st l m else CK st x y
end
def Bz:Nat->Dat->Dat->Bool
 |_,.int _,.int _=>true
 |n+1,.tup l,.tup m=>(l.zip m).all fun p=>Bz n p.1 p.2
 |_,_,_=>false
abbrev eF(st:Bool):CmpOp:=if st then .Lt else .LtE
def Yu(st:Bool)(A:Around)(s:Shared)(u v:Value)(b:Bool):Prop:=∀(prog:Program)(w:World)(E:Value->Shared->Prop)(Q:Value->Shared->Prop),Q (.bool b) s->wpAny (model prog w) A (richCompare (eF st) u v) Q E s
section
open PySem.SeqAt
open PySem.AutoSeq1 (wpAny_loadPart')
open PySem.MeetsSeq PySem.MeetsSeq2 PySem.MeetsSeq3
inductive Prs (A:Around) (s:Shared) (st:Bool):List Dat->List Dat->List Value->List Value->Prop
 |nilL {m ws} (h:ws.length=m.length):Prs A s st [] m [] ws
 |nilR {l vs} (h:vs.length=l.length):Prs A s st l [] vs []
 |cons {x y l m u v vs ws} (he:EqAt A s u v (eqD x y)) (hl:Yu st A s u v (CK st x y)) (t:Prs A s st l m vs ws):Prs A s st (x::l) (y::m) (u::vs) (v::ws)
theorem QT(l b:Addr)(items CU:Array Value)(n n2:Nat)(dd Xl:Option Addr)(sl Sm:Array (Option Value))(ds es:List Dat) :
  Meets (Builtin.«tuple.__lt__» ⟨[.ref l,.ref b],[]⟩)
   (fun A R s=>Prs A.in1 s true ds es items.toList CU.toList/\ds.length=items.size/\es.length=CU.size/\s.heap.get? l=some { cls:=.type "tuple",dict:=dd,data:=.seq items n,slots:=sl }/\s.heap.get? b=some { cls:=.type "tuple",dict:=Xl,data:=.seq CU n2,slots:=Sm } ∧
    R (.ok (.ret (.bool (Bl true ds es)))) s):=
 .of_wp fun prog w A R s h=>by
  obtain⟨hp,g,d,tk,os⟩:=s;obtain⟨hP,z1,z2,hl,hb,h⟩:=h;have f2:=AutoSeq1.sub_tuple_tuple;wp_walk using wpAny_loadPart' hl,wpAny_loadPart' hb,wpAny_forIn_list _ (fun rest b s'=>b.1=none/\s'=⟨hp,g,d,tk,os⟩/\∃(vs ws:List Value)(GS GU:List Dat),rest=vs.zip ws ∧
   Prs A.in1 ⟨hp,g,d,tk,os⟩ true GS GU vs ws/\GS.length+CU.size=GU.length+items.size/\R (.ok (.ret (.bool (Bl true GS GU)))) ⟨hp,g,d,tk,os⟩) _
  case turn=>
   rintro⟨y,x⟩ rest b s' ⟨Ja,rfl,vs,ws,GS,GU,hz,ZE,AY,hR⟩;cases ZE with
   |nilL hq=>rw[List.zip_nil_left]at hz;cases hz
   |nilR hq=>rw[List.zip_nil_right]at hz;cases hz
   |@cons dx dy l' m' u v Io l7 he Ar da=>
    rw[List.zip_cons_cons]at hz;injection hz with YO KH;injection YO with hy hx;subst hy hx;rw[Bl]at hR;simp only[List.length_cons]at AY;refine wpAny_bind (he prog w _ _ ?_);cases hq:eqD dx dy with
    |true=>
     rw[hq,if_pos rfl]at hR;wp_walk;exact⟨rfl,rfl,_,_,_,_,KH,da,by lia,hR⟩
    |false=>
     rw[hq,if_neg (by decide)]at hR;have dC:∀(E:Value->Shared->Prop)(Q:Value->Shared->Prop),Q (.bool (CK true dx dy)) ⟨hp,g,d,tk,os⟩->wpAny (model prog w) A.in1 (richCompare .Lt y x) Q E ⟨hp,g,d,tk,os⟩:=Ar prog w;wp_walk using dC;exact⟨_,rfl,by simpa using hR⟩
  case fin=>
   rintro⟨b1,b2⟩ s' ⟨Ja,rfl,vs,ws,GS,GU,hz,ZE,AY,hR⟩;simp only at Ja;subst Ja;have hv:Bl true GS GU=decide (items.size<CU.size):=by
    cases ZE with
    |nilL hq=>
     cases GU with
     |nil=>
      simp only[List.length_nil]at AY;rw[Bl];exact(decide_eq_false (by lia)).symm
     |cons y m=>
      simp only[List.length_nil,List.length_cons]at AY;rw[Bl];exact(decide_eq_true (by lia)).symm
    |nilR hq=>
     cases GS with
     |nil=>
      simp only[List.length_nil]at AY;rw[Bl];exact(decide_eq_false (by lia)).symm
     |cons y m=>
      simp only[List.length_nil,List.length_cons]at AY;rw[Bl];exact(decide_eq_false (by lia)).symm
    |cons he Ar da=>rw[List.zip_cons_cons]at hz;cases hz
   rw[hv]at hR;wp_walk;exact⟨_,rfl,by simpa[Builtin.Tuple.tupleCompareSizes]using hR⟩
  case h=>
   exact⟨rfl,rfl,items.toList,CU.toList,ds,es,rfl,hP,by lia,h⟩
theorem QW(l b:Addr)(items CU:Array Value)(n n2:Nat)(dd Xl:Option Addr)(sl Sm:Array (Option Value))(ds es:List Dat) :
  Meets (Builtin.«tuple.__le__» ⟨[.ref l,.ref b],[]⟩)
   (fun A R s=>Prs A.in1 s false ds es items.toList CU.toList/\ds.length=items.size/\es.length=CU.size/\s.heap.get? l=some { cls:=.type "tuple",dict:=dd,data:=.seq items n,slots:=sl }/\s.heap.get? b=some { cls:=.type "tuple",dict:=Xl,data:=.seq CU n2,slots:=Sm } ∧
    R (.ok (.ret (.bool (Bl false ds es)))) s):=
 .of_wp fun prog w A R s h=>by
  obtain⟨hp,g,d,tk,os⟩:=s;obtain⟨hP,z1,z2,hl,hb,h⟩:=h;have f2:=AutoSeq1.sub_tuple_tuple;wp_walk using wpAny_loadPart' hl,wpAny_loadPart' hb,wpAny_forIn_list _ (fun rest b s'=>b.1=none/\s'=⟨hp,g,d,tk,os⟩/\∃(vs ws:List Value)(GS GU:List Dat),rest=vs.zip ws ∧
   Prs A.in1 ⟨hp,g,d,tk,os⟩ false GS GU vs ws/\GS.length+CU.size=GU.length+items.size/\R (.ok (.ret (.bool (Bl false GS GU)))) ⟨hp,g,d,tk,os⟩) _
  case turn=>
   rintro⟨y,x⟩ rest b s' ⟨Ja,rfl,vs,ws,GS,GU,hz,ZE,AY,hR⟩;cases ZE with
   |nilL hq=>rw[List.zip_nil_left]at hz;cases hz
   |nilR hq=>rw[List.zip_nil_right]at hz;cases hz
   |@cons dx dy l' m' u v Io l7 he Ar da=>
    rw[List.zip_cons_cons]at hz;injection hz with YO KH;injection YO with hy hx;subst hy hx;rw[Bl]at hR;simp only[List.length_cons]at AY;refine wpAny_bind (he prog w _ _ ?_);cases hq:eqD dx dy with
    |true=>
     rw[hq,if_pos rfl]at hR;wp_walk;exact⟨rfl,rfl,_,_,_,_,KH,da,by lia,hR⟩
    |false=>
     rw[hq,if_neg (by decide)]at hR;have dC:∀(E:Value->Shared->Prop)(Q:Value->Shared->Prop),Q (.bool (CK false dx dy)) ⟨hp,g,d,tk,os⟩->wpAny (model prog w) A.in1 (richCompare .LtE y x) Q E ⟨hp,g,d,tk,os⟩:=Ar prog w;wp_walk using dC;exact⟨_,rfl,by simpa using hR⟩
  case fin=>
   rintro⟨b1,b2⟩ s' ⟨Ja,rfl,vs,ws,GS,GU,hz,ZE,AY,hR⟩;simp only at Ja;subst Ja;have hv:Bl false GS GU=decide (items.size<=CU.size):=by
    cases ZE with
    |nilL hq=>
     cases GU with
     |nil=>
      simp only[List.length_nil]at AY;rw[Bl];exact(decide_eq_true (by lia)).symm
     |cons y m=>
      simp only[List.length_nil,List.length_cons]at AY;rw[Bl];exact(decide_eq_true (by lia)).symm
    |nilR hq=>
     cases GS with
     |nil=>
      simp only[List.length_nil]at AY;rw[Bl];exact(decide_eq_true (by lia)).symm
     |cons y m=>
      simp only[List.length_nil,List.length_cons]at AY;rw[Bl];exact(decide_eq_false (by lia)).symm
    |cons he Ar da=>rw[List.zip_cons_cons]at hz;cases hz
   rw[hv]at hR;wp_walk;exact⟨_,rfl,by simpa[Builtin.Tuple.tupleCompareSizes]using hR⟩
  case h=>
   exact⟨rfl,rfl,items.toList,CU.toList,ds,es,rfl,hP,by lia,h⟩
theorem QU{A:Around}{s:Shared}{st:Bool}:∀{l m:List Dat}{vs ws:List Value},vs.length=l.length->ws.length=m.length →
  (∀(i:Nat) x y u v,l[i]?=some x->m[i]?=some y->vs[i]?=some u->ws[i]?=some v->EqAt A s u v (eqD x y)/\Yu st A s u v (CK st x y))->Prs A s st l m vs ws
 |[],m,vs,ws,h1,h2,_=>by
  obtain rfl:=List.eq_nil_of_length_eq_zero h1;exact .nilL h2
 |_::_,[],vs,ws,h1,h2,_=>by
  obtain rfl:=List.eq_nil_of_length_eq_zero h2;exact .nilR h1
 |x::l,y::m,[],_,h1,_,_=>by simp at h1
 |x::l,y::m,_::_,[],_,h2,_=>by simp at h2
 |x::l,y::m,u::vs,v::ws,h1,h2,h=>by
  obtain⟨a,b⟩:=h 0 x y u v rfl rfl rfl rfl;refine .cons a b (QU (by simpa using h1) (by simpa using h2) fun i x' y' u' v' g1 g2 g3 g4=>h (i+1) x' y' u' v' (by simpa using g1) (by simpa using g2) (by simpa using g3) (by simpa using g4))
theorem KW{s:Shared}(st:Bool):∀(n:Nat){A:Around}{d e:Dat}{u v:Value},Bz n d e=true->AH n d=true->AH n e=true->AtH s.heap d u->AtH s.heap e v->A.units+n<cLine->Yu st A s u v (CK st d e)
 |n,A,.int a,.int b,u,v,ho,_,_,hd,he,hu=>by
  rw[AtH]at hd he;obtain⟨t,rfl⟩:=hd;obtain⟨t',rfl⟩:=he;intro prog w E Q h;rw[CK]at h;cases st with
  |true=>exact(PyProof.Rows.lt_int h:wpAny (model prog w) A (compareOp .Lt (.int a t) (.int b t')) Q E s)
  |false=>exact(PyProof.Rows.le_int h:wpAny (model prog w) A (compareOp .LtE (.int a t) (.int b t')) Q E s)
 |n+1,A,.tup l,.tup m,u,v,ho,pd,pe,hd,he,hu=>by
  rw[AtH]at hd he;obtain⟨a,is,rfl,ti,rl⟩:=hd;obtain⟨b,js,rfl,tj,rm⟩:=he;rw[Bz,List.all_eq_true]at ho;rw[AH,List.all_eq_true]at pd pe;have hP:Prs A.in1 s st l m is js:=QU rl.length rm.length fun i x y u v g1 g2 g3 g4=>by
   obtain⟨u',FI,ru⟩:=rl.get g1;obtain⟨v',Xn,rv⟩:=rm.get g2;rw[g3]at FI;rw[g4]at Xn;cases FI;cases Xn;have p1:=pd x (List.mem_of_getElem? g1);have p2:=pe y (List.mem_of_getElem? g2);have o1:=ho (x,y) (List.mem_of_getElem? (i:=i) (by rw[List.getElem?_zip_eq_some];exact⟨g1,g2⟩));have Lj:A.in1.units+n<cLine:=by show A.units+1+n<cLine;lia
   exact⟨(FZ n p1 p2 ru rv Lj).1,KW st n o1 p1 p2 ru rv Lj⟩
  obtain⟨⟨cls,dd,data,sl⟩,Ls,hc,n1,hd⟩:=id ti;obtain⟨⟨lQ,Xl,data2,Sm⟩,Ub,cq,n2,hd2⟩:=id tj;simp only at hc hd cq hd2;subst hc hd cq hd2;intro prog w E Q h;rw[CK]at h;have z1:l.length=is.toArray.size:=by rw[List.size_toArray,rl.length]
  have z2:m.length=js.toArray.size:=by rw[List.size_toArray,rm.length]
  cases st with
  |true=>
   exact richCompare_meets_room (op:=.Lt) ⟨_,Ls,rfl⟩ ⟨_,Ub,rfl⟩ PySem.F.slot_tuple_lt PySem.F.entry_tuple_lt (PySem.F.args_tuple_lt_2 _ _) (QT a b is.toArray js.toArray n1 n2 dd Xl sl Sm l m)
    ⟨hP,z1,z2,Ls,Ub,show Value.bool (Bl true l m)≠Value.notImplemented/\Q (.bool (Bl true l m)) s from⟨(fun x=>nomatch x),h⟩⟩ (by lia)
  |false=>
   exact richCompare_meets_room (op:=.LtE) ⟨_,Ls,rfl⟩ ⟨_,Ub,rfl⟩ PySem.F.slot_tuple_le PySem.F.entry_tuple_le (PySem.F.args_tuple_le_2 _ _) (QW a b is.toArray js.toArray n1 n2 dd Xl sl Sm l m)
    ⟨hP,z1,z2,Ls,Ub,show Value.bool (Bl false l m)≠Value.notImplemented/\Q (.bool (Bl false l m)) s from⟨(fun x=>nomatch x),h⟩⟩ (by lia)
 |0,_,.tup _,.tup _,_,_,ho,_,_,_,_,_=>by simp[Bz]at ho
 |_,_,.int _,.tup _,_,_,ho,_,_,_,_,_=>by simp[Bz]at ho
 |_,_,.tup _,.int _,_,_,ho,_,_,_,_,_=>by simp[Bz]at ho
 |_,_,.non,_,_,_,ho,_,_,_,_,_=>by simp[Bz]at ho
 |_,_,.bl _,_,_,_,ho,_,_,_,_,_=>by simp[Bz]at ho
 |_,_,.str _,_,_,_,ho,_,_,_,_,_=>by simp[Bz]at ho
 |_,_,.fn _,_,_,_,ho,_,_,_,_,_=>by simp[Bz]at ho
 |_,_,.scr _,_,_,_,ho,_,_,_,_,_=>by simp[Bz]at ho
 |_,_,.lst _,_,_,_,ho,_,_,_,_,_=>by simp[Bz]at ho
 |_,_,.int _,.non,_,_,ho,_,_,_,_,_=>by simp[Bz]at ho
 |_,_,.int _,.bl _,_,_,ho,_,_,_,_,_=>by simp[Bz]at ho
 |_,_,.int _,.str _,_,_,ho,_,_,_,_,_=>by simp[Bz]at ho
 |_,_,.int _,.fn _,_,_,ho,_,_,_,_,_=>by simp[Bz]at ho
 |_,_,.int _,.scr _,_,_,ho,_,_,_,_,_=>by simp[Bz]at ho
 |_,_,.int _,.lst _,_,_,ho,_,_,_,_,_=>by simp[Bz]at ho
 |_,_,.tup _,.non,_,_,ho,_,_,_,_,_=>by simp[Bz]at ho
 |_,_,.tup _,.bl _,_,_,ho,_,_,_,_,_=>by simp[Bz]at ho
 |_,_,.tup _,.str _,_,_,ho,_,_,_,_,_=>by simp[Bz]at ho
 |_,_,.tup _,.fn _,_,_,ho,_,_,_,_,_=>by simp[Bz]at ho
 |_,_,.tup _,.scr _,_,_,ho,_,_,_,_,_=>by simp[Bz]at ho
 |_,_,.tup _,.lst _,_,_,ho,_,_,_,_,_=>by simp[Bz]at ho
end
end TF
namespace TF
open PySem PySem.Spec L2
open PyProof.Rows hiding St RelV
open HT (lexLt)
section
mutual
theorem AtH.kept{h h':Heap}(k:∀b o,h.get? b=some o->h'.get? b=some o):∀{d:Dat}{u:Value},AtH h d u->AtH h' d u
 |.non,_,r=>by rw[AtH]at r ⊢;exact r
 |.bl _,_,r=>by rw[AtH]at r ⊢;exact r
 |.int _,_,r=>by rw[AtH]at r ⊢;exact r
 |.str _,_,r=>by rw[AtH]at r ⊢;exact r
 |.fn _,_,r=>by rw[AtH]at r ⊢;exact r
 |.scr _,_,r=>by rw[AtH]at r;exact r.elim
 |.tup _,_,r=>by
  rw[AtH]at r ⊢;obtain⟨a,AO,h1,⟨o,h2,h3⟩,h4⟩:=r;exact⟨a,AO,h1,⟨o,k _ _ h2,h3⟩,AtL.kept k h4⟩
 |.lst _,_,r=>by
  rw[AtH]at r ⊢;obtain⟨a,AO,h1,⟨o,h2,h3⟩,h4⟩:=r;exact⟨a,AO,h1,⟨o,k _ _ h2,h3⟩,AtL.kept k h4⟩
theorem AtL.kept{h h':Heap}(k:∀b o,h.get? b=some o->h'.get? b=some o):∀{ds:List Dat}{us:List Value},AtL h ds us->AtL h' ds us
 |[],_,r=>by rw[AtL]at r ⊢;exact r
 |_::_,_,r=>by
  rw[AtL]at r ⊢;obtain⟨u,r',h1,h2,h3⟩:=r;exact⟨u,r',h1,AtH.kept k h2,AtL.kept k h3⟩
end
theorem AtL.mem{h:Heap}:∀{ds:List Dat}{us:List Value},AtL h ds us->∀u∈us,∃d∈ds,AtH h d u
 |[],_,r,u,hu=>by rw[AtL]at r;subst r;cases hu
 |d::ds,_,r,u,hu=>by
  rw[AtL]at r;obtain⟨u',r',rfl,h2,h3⟩:=r;rcases List.mem_cons.mp hu with rfl|hu
  ·exact⟨d,List.mem_cons_self ..,h2⟩
  ·obtain⟨d',h4,h5⟩:=AtL.mem h3 u hu;exact⟨d',List.mem_cons_of_mem _ h4,h5⟩
theorem IM:∀l:List Int,lexLt l l=false
 |[]=>rfl
 |x::l=>by rw[HT.lexLt_cons,if_pos rfl,IM l]
theorem He:∀{a b c:List Int},lexLt a b=true->lexLt b c=true->lexLt a c=true
 |[],[],_,h,_=>by cases h
 |[],_::_,[],_,h=>by cases h
 |[],_::_,_::_,_,_=>rfl
 |_::_,[],_,h,_=>by cases h
 |_::_,_::_,[],_,h=>by cases h
 |x::a,y::b,z::c,h1,h2=>by
  rw[HT.lexLt_cons]at *;split at h1<;>split at h2
  ·rename_i e1 e2;subst e1;subst e2;rw[if_pos rfl];exact He h1 h2
  ·rename_i e1 e2;subst e1;rw[if_neg e2];exact h2
  ·rename_i e1 e2;subst e2;rw[if_neg e1];exact h1
  ·rename_i e1 e2;simp only[decide_eq_true_eq]at h1 h2;rw[if_neg (by lia)];simp only[decide_eq_true_eq];lia
theorem Fy:∀{a b:List Int},lexLt a b=false->lexLt b a=false->a=b
 |[],[],_,_=>rfl
 |[],_::_,h,_=>by cases h
 |_::_,[],_,h=>by cases h
 |x::a,y::b,h1,h2=>by
  rw[HT.lexLt_cons]at *;by_cases e:x=y
  ·subst e;rw[if_pos rfl]at h1 h2;rw[Fy h1 h2]
  ·rw[if_neg e]at h1;rw[if_neg (Ne.symm e)]at h2;simp only[decide_eq_false_iff_not]at h1 h2;lia
theorem Wn{a b c:List Int}(h:lexLt a c=true):lexLt a b=true\/lexLt b c=true:=by
 cases e:lexLt a b with
 |true=>exact .inl rfl
 |false=>
  right;cases e2:lexLt b a with
  |false=>
   have:=Fy e e2
   subst this;exact h
  |true=>exact He e2 h
structure OrdL (g:Dat->List Int) (ds:List Dat):Prop where
 lt:∀x∈ds,∀y∈ds,CK true x y=lexLt (g x) (g y)
 ord:∀x∈ds,∀y∈ds,Bz 8 x y=true
 pl:∀x∈ds,AH 8 x=true
 tup:∀x∈ds,∃y l,x=.tup (y::l)
 one:(∀x∈ds,∃i l,x=.tup (.int i::l))\/(∀x∈ds,∃k l,x=.tup (.tup k::l))
open Classical in
def BJ(h:Heap)(u:Value):Dat:=if e:∃d,AH 8 d=true/\AtH h d u then Classical.choose e else .non
theorem BN{h:Heap}{d:Dat}{u:Value}(p:AH 8 d=true)(r:AtH h d u):BJ h u=d:=by have e:∃d,AH 8 d=true/\AtH h d u:=⟨d,p,r⟩;unfold BJ;rw[dif_pos e];obtain⟨a,b⟩:=Classical.choose_spec e;exact AtH.inj 8 a p b r
def rkD(g:Dat->List Int)(ds:List Dat)(d:Dat):Nat:=ds.countP fun z=>lexLt (g z) (g d)
theorem MS(g:Dat->List Int):∀(ds:List Dat){x y:Dat},lexLt (g x) (g y)=true->rkD g ds x<=rkD g ds y/\(x∈ds->rkD g ds x<rkD g ds y)
 |[],x,y,_=>⟨Nat.le_refl _,fun h=>by cases h⟩
 |z::ds,x,y,h=>by
  obtain⟨i1,i2⟩:=MS g ds h;unfold rkD at *;rw[List.countP_cons,List.countP_cons];have imp:lexLt (g z) (g x)=true->lexLt (g z) (g y)=true:=fun e=>He e h;constructor
  ·cases e1:lexLt (g z) (g x)with
   |true=>rw[imp e1];simp;exact i1
   |false=>simp;lia
  ·intro hx;rcases List.mem_cons.mp hx with rfl|hx
   ·rw[IM,h];simp;lia
   ·have:=i2 hx
    cases e1:lexLt (g z) (g x)with
    |true=>rw[imp e1];simp;lia
    |false=>simp;lia
theorem Wz(g:Dat->List Int)(ds:List Dat){x y:Dat}(hx:x∈ds)(hy:y∈ds):decide (rkD g ds x<rkD g ds y)=lexLt (g x) (g y):=by
 cases e:lexLt (g x) (g y)with
 |true=>exact decide_eq_true ((MS g ds e).2 hx)
 |false=>
  refine decide_eq_false fun Ar=>?_;cases e2:lexLt (g y) (g x)with
  |true=>have:=(MS g ds e2).2 hy;lia
  |false=>
   have:=Fy e e2
   unfold rkD at Ar;rw[this]at Ar;lia
section
variable {prog:Program}{w:World}{A:Around}{E:Value->Shared->Prop}{s:Shared}
theorem Y4{d e:Dat}{u v:Value}(fl:Bool){Q:Bool->Shared->Prop}(hf:fl=true->(∃i,d=.int i)/\∃j,e=.int j)(hl:Yu true A s u v (CK true d e))(rd:AtH s.heap d u)(re:AtH s.heap e v)(h:Q (CK true d e) s):wpAny (model prog w) A (oneLt' fl u v) Q E s:=by
 cases fl with
 |true=>
  obtain⟨⟨i,rfl⟩,j,rfl⟩:=hf rfl;rw[AtH]at rd re;obtain⟨t,rfl⟩:=rd;obtain⟨t',rfl⟩:=re;refine oneLt_int ?_;rw[CK]at h;exact h
 |false=>
  refine PySem.W.kat_one u v ?_;exact hl prog w E _ h
theorem Zj{fl:Bool}{a b:Addr}{l m:List Dat}{is js:List Value}{Q:Bool->Shared->Prop}(ti:s.heap.IsTuple a is.toArray)(tj:s.heap.IsTuple b js.toArray)(rl:AtL s.heap l is)(rm:AtL s.heap m js)(hP:Prs A s true l m is js)(hf:fl=true->∀x y,l[0]?=some x->m[0]?=some y->(∃i,x=.int i)/\∃j,y=.int j)(h:Q (Bl true l m) s):wpAny (model prog w) A (keyLt' (tuples' fl) (.ref a) (.ref b)) Q E s:=by
 obtain⟨o1,h1,_,n1,d1⟩:=ti;obtain⟨o2,h2,_,n2,d2⟩:=tj;refine PySem.W.kat_lt h1 d1 h2 d2 ?_;have z1:is.toArray.size=l.length:=by rw[List.size_toArray,rl.length]
 have z2:js.toArray.size=m.length:=by rw[List.size_toArray,rm.length]
 have gen:∀(i:Nat)(l' m':List Dat)(dk aN:List Value),Prs A s true l' m' dk aN->AtL s.heap l' dk->AtL s.heap m' aN->(fl&&i==0)=true/\l'=l/\m'=m\/(fl&&i==0)=false->l'.length+m.length=m'.length+l.length->Q (Bl true l' m') s →
   PySem.W.KatLex prog w A fl (decide (is.toArray.size<js.toArray.size)) Q (dk.zip aN) i s:=by
  intro i l' m' dk aN ZE
  induction ZE generalizing i with
  |@nilL m' ws hq=>
   intro _ _ _ hl hQ;rw[List.zip_nil_left];refine PySem.W.kat_nil ?_;rw[z1,z2];rw[List.length_nil]at hl;cases m' with
   |nil=>rw[Bl]at hQ;rw[decide_eq_false (by simp at hl;lia)];exact hQ
   |cons y m'=>rw[Bl]at hQ;rw[decide_eq_true (by simp at hl;lia)];exact hQ
  |@nilR l' vs hq=>
   intro _ _ _ hl hQ;rw[List.zip_nil_right];refine PySem.W.kat_nil ?_;rw[z1,z2];rw[List.length_nil]at hl;cases l' with
   |nil=>rw[Bl]at hQ;rw[decide_eq_false (by simp at hl;lia)];exact hQ
   |cons y l'=>rw[Bl]at hQ;rw[decide_eq_false (by simp at hl;lia)];exact hQ
  |@cons x y l' m' u v vs ws he Yg t ih=>
   intro r1 r2 dJ AY hQ;rw[AtL]at r1 r2;obtain⟨u',Io,e1,ru,qL⟩:=r1;obtain⟨v',l7,e2,rv,rws⟩:=r2;cases e1;cases e2;rw[List.zip_cons_cons];refine PySem.W.kat_cons (he prog w _ _ ?_);rw[Bl]at hQ;cases hq:eqD x y with
   |true=>
    rw[hq,if_pos rfl]at hQ;refine PySem.W.kat_yes (ih (i+1) qL rws (.inr (by simp)) (by simp at AY;lia) hQ)
   |false=>
    rw[hq,if_neg (by decide)]at hQ;refine PySem.W.kat_no (Y4 _ (fun n0=>?_) Yg ru rv hQ);rcases dJ with⟨g1,g2,g3⟩|g1
    ·refine hf ?_ x y ?_ ?_
     ·cases fl<;>simp_all
     ·rw[<-g2];rfl
     ·rw[<-g3];rfl
    ·rw[g1]at n0;cases n0
 refine gen 0 l m is js hP rl rm ?_ (Nat.add_comm _ _) h;cases fl with
 |true=>exact .inl ⟨rfl,rfl,rfl⟩
 |false=>exact .inr rfl
theorem Xr{g:Dat->List Int}{ds:List Dat}{vs:List Value}(r:AtL s.heap ds vs)(O:OrdL g ds){fl:Bool}(hf:fl=true->∀x∈ds,∃i l,x=.tup (.int i::l))(hu:A.units+8<cLine) :
  TS.CmpOk prog w A s (pairsOf vs) (fun p=>rkD g ds (BJ s.heap p.1)) (tuples' fl):=by
 intro x y hx hy E Q hq;rw[pairsOf_toList]at hx hy;obtain⟨d,hd,rd⟩:=r.mem _ (mem_zip_self hx).2;obtain⟨e,he,re⟩:=r.mem _ (mem_zip_self hy).2;have oJ:decide (rkD g ds (BJ s.heap x.1)<rkD g ds (BJ s.heap y.1))=CK true d e:=by
  rw[BN (O.pl d hd) rd,BN (O.pl e he) re,Wz g ds hd he,<-O.lt d hd e he]
 replace hq:Q (CK true d e) s:=by rw[<-oJ];exact hq
 have hl:=KW (A:=A) (s:=s) true 8 (O.ord d hd e he) (O.pl d hd) (O.pl e he) rd re hu;obtain⟨x0,l,rfl⟩:=O.tup d hd;obtain⟨y0,m,rfl⟩:=O.tup e he;have od:=O.ord _ hd _ he;have p1:=O.pl _ hd;have p2:=O.pl _ he;rw[AH,List.all_eq_true]at p1 p2;rw[Bz,List.all_eq_true]at od;rw[AtH]at rd re;obtain⟨a,is,ea,ti,rl⟩:=rd;obtain⟨b,js,eb,tj,rm⟩:=re;rw[ea,eb];rw[CK]at hq;refine Zj ti tj rl rm (QU rl.length rm.length fun i x y u v g1 g2 g3 g4=>?_) (fun h0 x y g1 g2=>?_) hq
 ·obtain⟨u',FI,ru⟩:=rl.get g1;obtain⟨v',Xn,rv⟩:=rm.get g2;rw[g3]at FI;rw[g4]at Xn;cases FI;cases Xn;have q1:=p1 x (List.mem_of_getElem? g1);have q2:=p2 y (List.mem_of_getElem? g2);have o1:=od (x,y) (List.mem_of_getElem? (i:=i) (by rw[List.getElem?_zip_eq_some];exact⟨g1,g2⟩));exact⟨(FZ 7 q1 q2 ru rv (by lia)).1,KW true 7 o1 q1 q2 ru rv (by lia)⟩
 ·obtain⟨i,l',e1⟩:=hf h0 _ hd;obtain⟨j,m',e2⟩:=hf h0 _ he;cases e1;cases e2;cases g1;cases g2;exact⟨⟨i,rfl⟩,j,rfl⟩
theorem HB{g:Dat->List Int}{T:Value}:∀{ds:List Dat}{vs:List Value},AtL s.heap ds vs->(∀x∈ds,∃y l,x=.tup (y::l)/\∀u,AtH s.heap y u->PySem.W.Looks (model prog w) s.heap (typeOf u) T)->∃fs,PySem.W.KatTups s.heap vs fs/\fs.length=vs.length/\∀v∈fs,PySem.W.Looks (model prog w) s.heap (typeOf v) T
 |[],_,r,_=>by rw[AtL]at r;subst r;exact⟨[],trivial,rfl,fun _ h=>by cases h⟩
 |d::ds,_,r,h=>by
  rw[AtL]at r;obtain⟨u,Io,rfl,rd,rr⟩:=r;obtain⟨fs,h1,h2,h3⟩:=HB (g:=g) rr fun x hx=>h x (List.mem_cons_of_mem _ hx);obtain⟨y,l,rfl,hy⟩:=h d (List.mem_cons_self ..);rw[AtH]at rd;obtain⟨a,is,rfl,⟨o,ho,hc,n,hd⟩,rl⟩:=rd;rw[AtL]at rl;obtain⟨u0,dk,rfl,ru,_⟩:=rl;refine⟨u0::fs,.cons ho hc hd rfl h1,by simp[h2],fun v hv=>?_⟩;rcases List.mem_cons.mp hv with rfl|hv
  ·exact hy _ ru
  ·exact h3 v hv
theorem WZ{α:Type}{R:α->α->Prop}:∀{l:List α},l.length<2->l.Pairwise R
 |[],_=>.nil
 |[_],_=>List.pairwise_singleton _ _
 |_::_::_,h=>absurd h (by simp)
theorem Gn{g:Dat->List Int}{a:Addr}{ds:List Dat}{vs:List Value}{n:Nat}{P:PySem.Fin->Shared->Prop}(ho:s.heap.get? a=some (seqObj "list" vs.toArray n))(r:AtL s.heap ds vs)(ro:∀b o,b≠a->s.heap.get? b=some o->True)(LH:∀(h':Heap),(∀b o,b≠a->s.heap.get? b=some o->h'.get? b=some o)->AtL h' ds vs)(O:OrdL g ds)(hsz:vs.length<=sizeLine)(hu:A.units+8<cLine)(h:∀out:Array Value,out.toList.Perm vs->(out.toList.map fun u=>g (BJ s.heap u)).Pairwise (fun x y=>HT.lexLt y x=false)->P (.done (.ret .none)) { s with heap:=sortedHeap s.heap a vs out }) :
  wpAny (model prog w) A (Builtin.«list.sort» ⟨[.ref a],[]⟩) P E s:=by
 rw[list_sort_plain];have ha:a<s.heap.objs.size:=Heap.lt_size ho;refine wpAny_bind (listItems_at ho rfl ?_);refine wpAny_bind (listUpdate_at ho rfl ?_ (by rw[List.size_toArray];exact hsz) (Nat.zero_le _));obtain⟨e1,Ls⟩:∃e1,(s.heap.update a (Obj.mapSeq fun _=>#[])).get? a=some (seqObj "list" #[] e1):=⟨_,get?_update_seq ho (fun _=>#[])⟩;refine wpAny_bind (seqEpoch_at Ls rfl ?_);refine wpAny_bind (wpAny_newTuple ?_ (by show vs.length<=_;exact hsz));refine wpAny_bind (wpAny_newList ?_ (Nat.zero_le _));refine wpAny_holding ?_;have iB:(((s.heap.update a (Obj.mapSeq fun _=>#[])).push (seqObj "tuple" vs.toArray 0)).push (seqObj "list" #[] 0)).get? a=some (seqObj "list" #[] e1):=by
  rw[Heap.get?_push_ne _ _ _ (by rw[size_push',Heap.size_update];exact Nat.ne_of_lt (Nat.lt_succ_of_lt ha)),Heap.get?_push_ne _ _ _ (by rw[Heap.size_update];exact Nat.ne_of_lt ha)];exact Ls
 have keep:∀b o,b≠a->s.heap.get? b=some o->(((s.heap.update a (Obj.mapSeq fun _=>#[])).push (seqObj "tuple" vs.toArray 0)).push (seqObj "list" #[] 0)).get? b=some o:=fun b o hb e=>by
  have Ar:b<s.heap.objs.size:=Heap.lt_size e;rw[Heap.get?_push_ne _ _ _ (by rw[size_push',Heap.size_update];exact Nat.ne_of_lt (Nat.lt_succ_of_lt Ar)),Heap.get?_push_ne _ _ _ (by rw[Heap.size_update];exact Nat.ne_of_lt Ar),Heap.get?_update_ne _ _ _ _ hb];exact e
 have r6:=LH _ keep;show wpAny (model prog w) A _ P E { s with heap:=((s.heap.update a (Obj.mapSeq fun _=>#[])).push (seqObj "tuple" vs.toArray 0)).push (seqObj "list" #[] 0) };generalize hh6:((s.heap.update a (Obj.mapSeq fun _=>#[])).push (seqObj "tuple" vs.toArray 0)).push (seqObj "list" #[] 0)=h6 at *;have gc:∀u∈vs,BJ h6 u=BJ s.heap u:=fun u FI=>by
  obtain⟨i,hi⟩:=List.mem_iff_getElem?.mp FI;have hl:=r.length;have rY:=(List.getElem?_eq_some_iff.mp hi).1;have hd:ds[i]?=some (ds[i]'(by lia)):=List.getElem?_eq_getElem (by lia);obtain⟨u1,q1,q2⟩:=r.get hd;obtain⟨u2,q3,q4⟩:=r6.get hd;rw[hi]at q1 q3;cases q1;cases q3;have p:=O.pl _ (List.getElem_mem (by lia:i<ds.length));rw[BN p q2,BN p q4]
 dsimp only;have kL:vs.toArray.size=vs.length:=by simp
 by_cases h2:vs.toArray.size<2
 ·rw[if_pos h2,if_pos h2];refine wpAny_bind (wpAny_pure ?_);rw[StateT.run_pure];refine wpAny_bind (wpAny_pure ?_);dsimp only;refine wpAny_bind (seqEpoch_at iB rfl ?_);refine wpAny_bind (listUpdate_at iB rfl ?_ (Nat.zero_le _) (by rw[Array.size_map];show(pairsOf vs).size<=_;rw[pairsOf_size];lia));simp only[bne_self_eq_false,Bool.false_eq_true,if_false];have e:(vs.toArray.zip vs.toArray).map (·.2)=vs.toArray:=by
   apply Array.toList_inj.mp;rw[Array.toList_map];show(pairsOf vs).toList.map (·.2)=vs;rw[pairsOf_toList,List.map_snd_zip (Nat.le_refl _)]
  have:=h vs.toArray (by simp) (by
   rw[kL]at h2;exact WZ (by simpa using h2))
  refine wpAny_pure ?_;unfold sortedHeap at this;rw[hh6]at this;show P _ { s with heap:=h6.update a (Obj.mapSeq fun _=>(vs.toArray.zip vs.toArray).map (·.2)) };rw[e];exact this
 rw[if_neg h2,if_neg h2];have Bq:0<vs.length:=by lia
 obtain⟨fl,dJ,dH⟩:∃fl:Bool,(fl=true->∀x∈ds,∃i l,x=.tup (.int i::l))/\∀(Q:SortKind->Shared->Prop),Q (tuples' fl) { s with heap:=h6 }->wpAny (model prog w) A (keyKind' vs.toArray) Q E { s with heap:=h6 }:=by
  rcases O.one with MG|MG
  ·refine⟨true,fun _=>MG,fun Q hQ=>?_⟩;obtain⟨fs,k1,k2,k3⟩:=HB (prog:=prog) (w:=w) (s:={ s with heap:=h6 }) (g:=g) (T:=.type "int") r6 fun x hx=>by
    obtain⟨i,l,rfl⟩:=MG x hx;refine⟨_,l,rfl,fun u FI=>?_⟩;rw[AtH]at FI;obtain⟨t,rfl⟩:=FI;exact PySem.W.Looks.of_pure rfl
   exact PySem.W.kat_kind k1 (by lia) k3 rfl hQ
  ·refine⟨false,(fun h=>nomatch h),fun Q hQ=>?_⟩;obtain⟨fs,k1,k2,k3⟩:=HB (prog:=prog) (w:=w) (s:={ s with heap:=h6 }) (g:=g) (T:=.type "tuple") r6 fun x hx=>by
    obtain⟨i,l,rfl⟩:=MG x hx;refine⟨_,l,rfl,fun u FI=>?_⟩;rw[AtH]at FI;obtain⟨b,is,rfl,⟨o,q1,q2,_⟩,_⟩:=FI
    have:=(PySem.W.Looks.ld (M:=model prog w) (part:=none) q1).andThen (f:=fun o=>pure o.cls) (b:=o.cls) .now
    rw[q2]at this;exact(show PySem.W.Looks (model prog w) h6 (typeOf (.ref b)) (.type "tuple")from q2▸(PySem.W.Looks.ld q1).andThen .now)
   exact PySem.W.kat_kind k1 (by lia) k3 rfl hQ
 refine wpAny_bind (dH _ ?_);have hc:=Xr (prog:=prog) (w:=w) (A:=A) (s:={ s with heap:=h6 }) (g:=g) r6 O dJ hu;refine wpAny_bind (wpAny_mono (TS.wpS_sortRuns (st:=SortSt.mk' (tuples' fl) (vs.toArray.zip vs.toArray) #[] 7 none) (Q:=fun _ AN=>TS.SB (pairsOf vs) (tuples' fl) AN/\TS.Srt (fun p=>rkD g ds (BJ h6 p.1)) (arrOf AN).toList) hc ⟨Array.Perm.refl _,rfl,rfl⟩ rfl fun AN b1 b2=>⟨b1,b2⟩) ?_ fun _ _ e=>e);rintro⟨⟨⟩,AN⟩ s' ⟨rfl,hB,hS⟩;dsimp only;refine wpAny_bind (seqEpoch_at iB rfl ?_);have ky:(arrOf AN).toList.Perm (vs.zip vs):=by rw[<-pairsOf_toList];exact Array.perm_iff_toList_perm.mp hB.perm
 refine wpAny_bind (listUpdate_at iB rfl ?_ (Nat.zero_le _) (by rw[Array.size_map,hB.size,pairsOf_size];lia));have lP:failedOf AN=none:=hB.failed;rw[lP];simp only[bne_self_eq_false,Bool.false_eq_true,if_false];refine wpAny_pure ?_
 have:=h ((arrOf AN).map (·.2)) (by
  rw[Array.toList_map]
  have:=ky.map (·.2)
  rwa [List.map_snd_zip (Nat.le_refl _)]at this) (by
  rw[Array.toList_map,List.map_map,List.pairwise_map];refine List.Pairwise.imp_of_mem (fun {x y} hx hy hle=>?_) hS;have mx:=mem_zip_self (ky.mem_iff.mp hx);have my:=mem_zip_self (ky.mem_iff.mp hy);show HT.lexLt (g (BJ s.heap y.2)) (g (BJ s.heap x.2))=false;rw[<-mx.1,<-my.1,<-gc _ mx.2,<-gc _ my.2];obtain⟨dx,mJ,rF⟩:=r6.mem _ mx.2;obtain⟨dy,mv,pI⟩:=r6.mem _ my.2;have iU:rkD g ds (BJ h6 x.1)<=rkD g ds (BJ h6 y.1):=hle;rw[BN (O.pl _ mJ) rF,BN (O.pl _ mv) pI]at iU ⊢;rw[<-Wz g ds mv mJ];exact decide_eq_false (by lia))
 unfold sortedHeap at this;rw[hh6]at this;exact this
end
end
end TF
namespace TF
open PySem PySem.Spec L2
open PyProof.Rows hiding St RelV
inductive Tri (K:PySem.W.Frag) (H:Hp):List Dat->List V->List Value->Prop
 |nil:Tri K H [] [] []
 |cons {d v u ds vs us} (h:Rep K H d v) (r:RelV v u) (t:Tri K H ds vs us):Tri K H (d::ds) (v::vs) (u::us)
theorem XH{K:PySem.W.Frag}{H:Hp}:∀{ds:List Dat}{vs:List V}{us:List Value},RepL K H ds vs->Vals vs us->Tri K H ds vs us
 |[],_,_,r,v=>by rw[RepL]at r;subst r;cases v;exact .nil
 |d::ds,_,_,r,v=>by
  rw[RepL]at r;obtain⟨x,r',rfl,h1,h2⟩:=r;cases v with
  |cons q t=>exact .cons h1 q (XH h2 t)
theorem Tri.rep{K:PySem.W.Frag}{H:Hp}{ds:List Dat}{vs:List V}{us:List Value}(h:Tri K H ds vs us):RepL K H ds vs/\Vals vs us:=by
 induction h with
 |nil=>exact⟨RepL.nil,.nil⟩
 |cons h r t ih=>exact⟨RepL.cons h ih.1,.cons r ih.2⟩
theorem Tri.same{K:PySem.W.Frag}{H H':Hp}{ds:List Dat}{vs:List V}{us:List Value}(e:Same H H')(h:Tri K H ds vs us):Tri K H' ds vs us:=by
 induction h with
 |nil=>exact .nil
 |cons h r t ih=>exact .cons (h.same e) r ih
theorem LF{K:PySem.W.Frag}{H:Hp}{us mT:List Value}(p:mT.Perm us):∀{ds:List Dat}{vs:List V},Tri K H ds vs us->∃GS Io,Tri K H GS Io mT/\GS.Perm ds:=by
 induction p with
 |nil=>intro ds vs h;exact⟨ds,vs,h,.refl _⟩
 |cons x p ih=>
  intro ds vs h;cases h with
  |cons h r t=>
   obtain⟨GS,Io,t',p'⟩:=ih t;exact⟨_,_,.cons h r t',p'.cons _⟩
 |swap x y l=>
  intro ds vs h;cases h with
  |cons h r t=>
   cases t with
   |cons h2 r2 t2=>exact⟨_,_,.cons h2 r2 (.cons h r t2),.swap ..⟩
 |trans p1 p2 i1 i2=>
  intro ds vs h;obtain⟨GS,Io,t',p'⟩:=i2 h;obtain⟨qg,fA,t2,pX⟩:=i1 t';exact⟨qg,fA,t2,pX.trans p'⟩
theorem Mz{X:Cx}{AD:List (Addr×Obj)}{σ:St}{H:Hp}{s:Shared}(I:Inv X AD σ H s){g:Dat->List Int}{ds:List Dat}{vs:List V}{us:List Value}(h:Tri X.K H ds vs us)(pl:∀d∈ds,AH 8 d=true):us.map (fun u=>g (BJ s.heap u))=ds.map g:=by
 induction h with
 |nil=>rfl
 |cons h r t ih=>
  rw[List.map_cons,List.map_cons,ih fun d hd=>pl d (List.mem_cons_of_mem _ hd)];have p:=pl _ (List.mem_cons_self ..);rw[BN p (h.at I p r)]
section
variable {X:Cx}{ρ:Rho}{G:Gs}{e a b c:Expr}{d d1 d2:Dat}{ds l m:List Dat}{pos:Pos}
theorem NM(g:Dat->List Int)(ds:List Dat)(O:OrdL g ds)(hu:X.A.units+20<cLine):Bi X (.builtin "sorted") (fun xs H Q=>∃p vs H0,xs=[.ref p]/\SqL X.K H p vs/\Same H0 H/\RepL X.K H0 ds vs ∧
  ∀q GS Io,H q=none->RepL X.K H0 GS Io->GS.Perm ds->(GS.map g).Pairwise (fun x y=>HT.lexLt y x=false)->Q (.ref q) (upd H q (.lst Io))):=by
 intro AD s σ H xs us Q I r h;obtain⟨p,vs,H0,rfl,hq,mw,rd,q⟩:=h;obtain⟨u,rfl,rx⟩:=Fp r;cases rx;obtain⟨AO,r',pl,hz⟩:=I.list hq;have T:=XH rd r';have AY:vs.length=AO.length:=r'.length;have ra:AtL s.heap ds AO:=(rd.same mw).at I (by rw[List.all_eq_true];exact O.pl) r';refine Calls.call_function_entry kind_sorted plain_sorted entry_sorted (args_sorted1 _) ?_;unfold Builtin.«sorted»;refine wpAny_bind (m:=checkCount "sorted" 1 1 _) (wpAny_pure ?_);refine wpAny_bind (collect_list pl.isList ?_ (by lia));refine wpAny_bind (wpAny_newList ?_ (by lia));have hsz:((s.heap.push (seqObj "list" #[] 0)).update s.heap.objs.size (Obj.mapSeq (·++AO.toArray))).objs.size=s.heap.objs.size+1:=by
  rw[Heap.size_update,size_push']
 have UX:(((s.heap.push (seqObj "list" #[] 0)).update s.heap.objs.size (Obj.mapSeq (·++AO.toArray))).push (seqObj "list" AO.toArray 0)).get? (s.heap.objs.size+1)=some (seqObj "list" AO.toArray 0):=by
  rw[<-hsz];exact Heap.get?_push_size _ rfl
 have keep:∀b o,s.heap.get? b=some o->(((s.heap.push (seqObj "list" #[] 0)).update s.heap.objs.size (Obj.mapSeq (·++AO.toArray))).push (seqObj "list" AO.toArray 0)).get? b=some o:=fun b o e=>by
  have Ar:b<s.heap.objs.size:=Heap.lt_size e;rw[Heap.get?_push_ne _ _ _ (by rw[hsz];exact Nat.ne_of_lt (Nat.lt_succ_of_lt Ar)),Heap.get?_update_ne _ _ _ _ (Nat.ne_of_lt Ar),Heap.get?_push_ne _ _ _ (Nat.ne_of_lt Ar)];exact e
 show wpAny _ _ _ _ _ { s with heap:=((s.heap.push (seqObj "list" #[] 0)).update s.heap.objs.size (Obj.mapSeq (·++AO.toArray))).push (seqObj "list" AO.toArray 0) };rw[hsz];refine wpAny_bind (wpAny_holding (wpAny_call_entry slot_list_sort ⟨_,UX,rfl⟩ entry_list_sort (Gn (g:=g) (ds:=ds) UX (ra.kept keep) (fun _ _ _ _=>trivial) (fun h' k=>ra.kept fun b o e=>k b o (Nat.ne_of_lt (Nat.lt_succ_of_lt (Heap.lt_size e))) (keep b o e)) O (by lia) (by show X.A.units+1+1+8<cLine;lia) fun out hp hs=>⟨_,rfl,?_⟩) (args_list_sort _)));refine wpAny_pure ⟨_,rfl,?_⟩;obtain⟨GS,Io,T',Uu⟩:=LF hp T;obtain⟨Yl,aX⟩:=T'.rep;have fE:Io.length<=sizeLine:=by
  have e1:=aX.length;have e2:=hp.length_eq;lia
 obtain⟨ep,dq⟩:=sortedAll_at s.heap AO out;have D1:∀u∈out.toList,BJ (((s.heap.push (seqObj "list" #[] 0)).update s.heap.objs.size (Obj.mapSeq (·++AO.toArray))).push (seqObj "list" AO.toArray 0)) u=BJ s.heap u:=fun u FI=>by
  obtain⟨d,hd,hr⟩:=ra.mem u (hp.mem_iff.mp FI);rw[BN (O.pl d hd) hr,BN (O.pl d hd) (hr.kept keep)]
 have UY:(GS.map g).Pairwise (fun x y=>HT.lexLt y x=false):=by
  rw[<-Mz I (T'.same mw) (fun d hd=>O.pl d (Uu.mem_iff.mp hd))];have e:out.toList.map (fun u=>g (BJ s.heap u))=out.toList.map (fun u=>g (BJ (((s.heap.push (seqObj "list" #[] 0)).update s.heap.objs.size (Obj.mapSeq (·++AO.toArray))).push (seqObj "list" AO.toArray 0)) u)):=
   List.map_congr_left fun u FI=>by rw[D1 u FI]
  rw[e];exact hs
 refine⟨.ref (s.heap.objs.size+1),upd H (s.heap.objs.size+1) (.lst Io),?_,rfl,q _ GS Io ?_ Yl Uu UY⟩
 ·refine I.laid (t':=s.toks) (o:=.lst Io) (fun b o e=>sortedAll_old e) (Nat.le_succ _) ?_;exact⟨fE,out.toList,ep,aX,by rw[Array.toArray_toList];exact dq⟩
 ·exact I.hok.fresh (Nat.le_succ _)
theorem UC{pp:Pos}(g:Dat->List Int)(hu:X.A.units+20<cLine)(hm:X.mg "sorted"=none)(ha:PX X ρ G a d1)(hl:d1=.lst l\/∃p,d1=.fn p/\G p=some (.lst l))(O:OrdL g l)(hq:∀l',l'.Perm l->(l'.map g).Pairwise (fun x y=>HT.lexLt y x=false)->l'=m)(hg:Gl X "sorted":=by rfl)(he:starEach [a] X.env=(false,eval a X.env)::starEach [] X.env:=by rfl):PX X ρ G (.Call (.Name "sorted" pp) [a] [] pos) (.lst m):=Co (NM g l O hu) hg hm (by decide +kernel) ha (fun H x Q o r k=>by
  have:∃p vs,x=.ref p/\SqL X.K H p vs/\RepL X.K (hid H G) l vs:=by
   rcases hl with rfl|⟨p,rfl,hG⟩
   ·rw[Rep]at r;obtain⟨p,vs,e,h1,h2⟩:=r;exact⟨p,vs,e,SqL.of (AJ _ _ h1),h2⟩
   ·obtain⟨vs,h1,h2⟩:=o p _ hG;exact⟨p,vs,r,SqL.of h1,h2⟩
  obtain⟨p,vs,e,h1,h2⟩:=this;refine⟨p,vs,hid H G,by rw[e],h1,AJ,h2,fun q GS Io pM r' Se UY=>?_⟩;obtain rfl:=hq GS Se UY;exact k _ _ (ID o pM r')) (he:=he)
end
mutual
def flat:Dat->List Int
 |.int i=>[i]
 |.tup l=>A2 l
 |_=>[]
def A2:List Dat->List Int
 |[]=>[]
 |d::r=>flat d++A2 r
end
abbrev lx:List Int->List Int->Bool:=HT.lexLt
theorem XB(a b c:List Int):lx (a++b) (a++c)=lx b c:=by
 induction a with
 |nil=>rfl
 |cons x a ih=>show HT.lexLt (x::(a++b)) (x::(a++c))=_;rw[HT.lexLt_cons,if_pos rfl];exact ih
theorem Rh:∀{a a':List Int}(b c:List Int),a.length=a'.length->a≠a'->lx (a++b) (a'++c)=lx a a'
 |[],[],_,_,_,h=>absurd rfl h
 |[],_::_,_,_,h,_=>by simp at h
 |_::_,[],_,_,h,_=>by simp at h
 |x::a,y::a',b,c,hl,hn=>by
  show HT.lexLt (x::(a++b)) (y::(a'++c))=HT.lexLt (x::a) (y::a');rw[HT.lexLt_cons,HT.lexLt_cons];by_cases e:x=y
  ·subst e;rw[if_pos rfl,if_pos rfl];exact Rh b c (by simpa using hl) fun z=>hn (by rw[z])
  ·rw[if_neg e,if_neg e]
structure FlD (c:Nat) (x y:Dat):Prop where
 lx:(flat x).length=c
 ly:(flat y).length=c
 eq:eqD x y=decide (flat x=flat y)
 lt:CK true x y=TF.lx (flat x) (flat y)
theorem Hj{c:Nat}(hc:0<c):∀(l m:List Dat),(∀x∈l,∀y∈m,FlD c x y)->(∀x∈l,(flat x).length=c)->(∀y∈m,(flat y).length=c)->Bl true l m=lx (A2 l) (A2 m)/\eqL l m=decide (A2 l=A2 m)
 |[],[],_,_,_=>⟨rfl,rfl⟩
 |[],y::m,_,_,h2=>by
  have:=h2 y (List.mem_cons_self ..)
  have Bq:A2 (y::m)≠[]:=by
   intro e;rw[A2]at e
   have:=congrArg List.length e
   simp at this;simp[this]at *;lia
  obtain⟨z,t,e⟩:=List.exists_cons_of_ne_nil Bq;constructor
  ·rw[Bl,A2,e];rfl
  ·rw[show eqL [] (y::m)=false from rfl,show A2 ([]:List Dat)=[]from rfl,e];rfl
 |x::l,[],_,h1,_=>by
  have:=h1 x (List.mem_cons_self ..)
  have Bq:A2 (x::l)≠[]:=by
   intro e;rw[A2]at e
   have:=congrArg List.length e
   simp at this;simp[this]at *;lia
  obtain⟨z,t,e⟩:=List.exists_cons_of_ne_nil Bq;constructor
  ·rw[Bl,e];rfl
  ·rw[show eqL (x::l) []=false from rfl,e];rfl
 |x::l,y::m,h,h1,h2=>by
  have F:=h x (List.mem_cons_self ..) y (List.mem_cons_self ..);obtain⟨i1,i2⟩:=Hj hc l m (fun x hx y hy=>h x (List.mem_cons_of_mem _ hx) y (List.mem_cons_of_mem _ hy)) (fun x hx=>h1 x (List.mem_cons_of_mem _ hx)) fun y hy=>h2 y (List.mem_cons_of_mem _ hy);rw[Bl,eqL,A2,A2,F.eq,F.lt,i1,i2];by_cases e:flat x=flat y
  ·rw[decide_eq_true e,if_pos rfl,e];refine⟨(XB _ _ _).symm,?_⟩;rw[Bool.true_and];simp
  ·rw[decide_eq_false e,if_neg (by decide)];refine⟨(Rh _ _ (by rw[F.lx,F.ly]) e).symm,?_⟩;rw[Bool.false_and];refine(decide_eq_false fun z=>e ?_).symm;exact(List.append_inj z (by rw[F.lx,F.ly])).1
theorem R7{c k:Nat}(hc:0<c){l m:List Dat}(h:∀x∈l,∀y∈m,FlD c x y)(h1:∀x∈l,(flat x).length=c)(h2:∀y∈m,(flat y).length=c)(NI:(A2 l).length=k)(Dr:(A2 m).length=k):FlD k (.tup l) (.tup m):=by obtain⟨i1,i2⟩:=Hj hc l m h h1 h2;exact⟨by rw[flat];exact NI,by rw[flat];exact Dr,by rw[eqD,flat,flat];exact i2,by rw[CK,flat,flat];exact i1⟩
theorem R4(i j:Int):FlD 1 (.int i) (.int j):=by
 refine⟨rfl,rfl,?_,?_⟩
 ·simp only[eqD,flat];rw[Bool.eq_iff_iff];simp
 ·rw[CK,flat,flat];show _=HT.lexLt [i] [j];rw[HT.lexLt_cons];by_cases e:i=j
  ·subst e;simp;rfl
  ·rw[if_neg e];rfl
theorem KZ(p q:Sq):FlD 2 (sq p) (sq q):=by
 refine R7 (c:=1) (by decide) ?_ ?_ ?_ rfl rfl
 ·intro x hx y hy;simp only[List.mem_cons,List.not_mem_nil,or_false]at hx hy;rcases hx with rfl|rfl<;>rcases hy with rfl|rfl<;>exact R4 _ _
 ·intro x hx;simp only[List.mem_cons,List.not_mem_nil,or_false]at hx;rcases hx with rfl|rfl<;>rfl
 ·intro x hx;simp only[List.mem_cons,List.not_mem_nil,or_false]at hx;rcases hx with rfl|rfl<;>rfl
theorem Dt(p q:Sq×Sq):FlD 4 (Ay p) (Ay q):=by
 refine R7 (c:=2) (by decide) ?_ ?_ ?_ rfl rfl
 ·intro x hx y hy;simp only[List.mem_cons,List.not_mem_nil,or_false]at hx hy;rcases hx with rfl|rfl<;>rcases hy with rfl|rfl<;>exact KZ _ _
 ·intro x hx;simp only[List.mem_cons,List.not_mem_nil,or_false]at hx;rcases hx with rfl|rfl<;>rfl
 ·intro x hx;simp only[List.mem_cons,List.not_mem_nil,or_false]at hx;rcases hx with rfl|rfl<;>rfl
abbrev ED:=Sq×Sq
abbrev Lay:=List ED
def lay(L:Lay):Dat:=.tup (L.map Ay)
theorem SA(L M:Lay):CK true (lay L) (lay M)=lx (flat (lay L)) (flat (lay M))/\eqD (lay L) (lay M)=decide (flat (lay L)=flat (lay M)):=by
 have:=Hj (c:=4) (by decide) (L.map Ay) (M.map Ay) (fun x hx y hy=>by
  obtain⟨p,_,rfl⟩:=List.mem_map.mp hx;obtain⟨q,_,rfl⟩:=List.mem_map.mp hy;exact Dt p q) (fun x hx=>by obtain⟨p,_,rfl⟩:=List.mem_map.mp hx;rfl) fun x hx=>by obtain⟨p,_,rfl⟩:=List.mem_map.mp hx;rfl
 simp only[lay,CK,eqD,flat];exact this
theorem Sw{p q:ED}(h:Ay p=Ay q):p=q:=by obtain⟨a,b⟩:=p;obtain⟨c,d⟩:=q;simp only[Ay,Dat.tup.injEq,List.cons.injEq,and_true]at h;rw[Kv h.1,Kv h.2]
theorem Fh{p q:Sq}(h:flat (sq p)=flat (sq q)):p=q:=by obtain⟨a,b⟩:=p;obtain⟨c,d⟩:=q;simp[sq,flat,A2]at h;rw[h.1,h.2]
theorem FJ{p q:ED}(h:flat (Ay p)=flat (Ay q)):p=q:=by obtain⟨⟨a,b⟩,a',b'⟩:=p;obtain⟨⟨c,d⟩,c',d'⟩:=q;simp[Ay,sq,flat,A2]at h;obtain⟨rfl,rfl,rfl,rfl⟩:=h;rfl
theorem HQ:∀{L M:Lay},flat (lay L)=flat (lay M)->L=M
 |[],[],_=>rfl
 |[],_::_,h=>by simp[lay,flat,A2,Ay,sq]at h
 |_::_,[],h=>by simp[lay,flat,A2,Ay,sq]at h
 |p::L,q::M,h=>by
  have h':flat (Ay p)++flat (lay L)=flat (Ay q)++flat (lay M):=h;obtain⟨h1,h2⟩:=List.append_inj h' (by rw[(Dt p q).lx,(Dt p q).ly]);rw[FJ h1,HQ h2]
structure TyD (α:Type) where
 f:α->Dat
 inj:∀{x y},flat (f x)=flat (f y)->x=y
 lt:∀x y,CK true (f x) (f y)=lx (flat (f x)) (flat (f y))
 eq:∀x y,eqD (f x) (f y)=decide (flat (f x)=flat (f y))
 pl:∀x,AH 8 (f x)=true
 ord:∀x y,Bz 8 (f x) (f y)=true
section
variable {α:Type}(T:TyD α)
def TyD.le(x y:α):Bool:=!lx (flat (T.f y)) (flat (T.f x))
def TyD.sort(l:List α):List α:=l.mergeSort T.le
theorem TyD.sort_perm(l:List α):(T.sort l).Perm l:=List.mergeSort_perm l _
theorem TyD.le_trans(x y z:α)(h1:T.le x y=true)(h2:T.le y z=true):T.le x z=true:=by
 unfold TyD.le at *;simp only[Bool.not_eq_true']at *;cases e:lx (flat (T.f z)) (flat (T.f x))with
 |false=>rfl
 |true=>
  rcases Wn (b:=flat (T.f y)) e with q|q
  ·rw[show lx=HT.lexLt from rfl]at h2;rw[h2]at q;cases q
  ·rw[show lx=HT.lexLt from rfl]at h1;rw[h1]at q;cases q
theorem TyD.le_total(x y:α):(T.le x y||T.le y x)=true:=by
 unfold TyD.le;cases e:lx (flat (T.f y)) (flat (T.f x))with
 |false=>rfl
 |true=>
  cases e2:lx (flat (T.f x)) (flat (T.f y))with
  |false=>rfl
  |true=>
   have:=He e e2
   rw[IM]at this;cases this
theorem TyD.sort_sorted(l:List α):(T.sort l).Pairwise fun x y=>T.le x y=true:=List.pairwise_mergeSort T.le_trans T.le_total l
theorem TyD.uniq:∀{l m:List α},l.Perm m->l.Pairwise (fun x y=>T.le x y=true)->m.Pairwise (fun x y=>T.le x y=true)->l=m
 |[],m,p,_,_=>by rw[List.nil_perm.mp p]
 |x::l,[],p,_,_=>by have:=p.length_eq;simp at this
 |x::l,y::m,p,h1,h2=>by
  obtain⟨a1,a2⟩:=List.pairwise_cons.mp h1;obtain⟨b1,b2⟩:=List.pairwise_cons.mp h2;have jH:x=y:=by
   have hx:x∈y::m:=p.mem_iff.mp (List.mem_cons_self ..);have hy:y∈x::l:=p.mem_iff.mpr (List.mem_cons_self ..);rcases List.mem_cons.mp hx with e|hx
   ·exact e
   rcases List.mem_cons.mp hy with e|hy
   ·exact e.symm
   have q1:=a1 y hy;have q2:=b1 x hx;unfold TyD.le at q1 q2;simp only[Bool.not_eq_true']at q1 q2;exact T.inj (Fy q2 q1)
  subst jH;rw[TyD.uniq (List.perm_cons _ |>.mp p) a2 b2]
end
theorem QO{α:Type}(T:TyD α)(l:List α)(one:(∀x,∃i r,T.f x=.tup (.int i::r))\/∀x,x∈l->∃k r,T.f x=.tup (.tup k::r)):OrdL flat (l.map T.f):=by
 refine⟨fun x hx y hy=>?_,fun x hx y hy=>?_,fun x hx=>?_,fun x hx=>?_,?_⟩
 ·obtain⟨p,_,rfl⟩:=List.mem_map.mp hx;obtain⟨q,_,rfl⟩:=List.mem_map.mp hy;exact T.lt p q
 ·obtain⟨p,_,rfl⟩:=List.mem_map.mp hx;obtain⟨q,_,rfl⟩:=List.mem_map.mp hy;exact T.ord p q
 ·obtain⟨p,_,rfl⟩:=List.mem_map.mp hx;exact T.pl p
 ·obtain⟨p,hp,rfl⟩:=List.mem_map.mp hx;rcases one with o|o
  ·obtain⟨i,r,e⟩:=o p;exact⟨_,_,e⟩
  ·obtain⟨i,r,e⟩:=o p hp;exact⟨_,_,e⟩
 ·rcases one with o|o
  ·exact .inl fun x hx=>by obtain⟨p,_,rfl⟩:=List.mem_map.mp hx;exact o p
  ·exact .inr fun x hx=>by obtain⟨p,hp,rfl⟩:=List.mem_map.mp hx;exact o p hp
theorem Jt{α:Type}(f:α->Dat):∀{l':List Dat}{l:List α},l'.Perm (l.map f)->∃m:List α,l'=m.map f/\m.Perm l:=by
 intro l' l p;have:∀{a b:List Dat},a.Perm b->∀l:List α,b=l.map f->∃m:List α,a=m.map f/\m.Perm l:=by
  intro a b p
  induction p with
  |nil=>intro l e;exact⟨[],rfl,by cases l with|nil=>exact .refl _|cons _ _=>simp at e⟩
  |cons x p ih=>
   intro l e;cases l with
   |nil=>simp at e
   |cons y l=>
    rw[List.map_cons]at e;obtain⟨rfl,e2⟩:=List.cons.inj e;obtain⟨m,h1,h2⟩:=ih l e2;exact⟨y::m,by rw[h1];rfl,h2.cons _⟩
  |swap x y r=>
   intro l e
   match l,e with
   |y'::x'::l,e=>
    simp only[List.map_cons,List.cons.injEq]at e;obtain⟨rfl,rfl,rfl⟩:=e;exact⟨x'::y'::l,rfl,.swap ..⟩
   |[],e=>simp at e
   |[_],e=>simp at e
  |trans p1 p2 i1 i2=>
   intro l e;obtain⟨m,h1,h2⟩:=i2 l e;obtain⟨m2,h3,h4⟩:=i1 m h1;exact⟨m2,h3,h4.trans h2⟩
 exact this p l rfl
section
variable {X:Cx}{ρ:Rho}{G:Gs}{a:Expr}{d1:Dat}{pos:Pos}
theorem Kq{α:Type}(T:TyD α)(l:List α){pp:Pos}(hu:X.A.units+20<cLine)(hm:X.mg "sorted"=none)(ha:PX X ρ G a d1)(hl:d1=.lst (l.map T.f)\/∃p,d1=.fn p/\G p=some (.lst (l.map T.f)))(one:(∀x,∃i r,T.f x=.tup (.int i::r))\/∀x,x∈l->∃k r,T.f x=.tup (.tup k::r))(hg:Gl X "sorted":=by rfl)(he:starEach [a] X.env=(false,eval a X.env)::starEach [] X.env:=by rfl):PX X ρ G (.Call (.Name "sorted" pp) [a] [] pos) (.lst ((T.sort l).map T.f)):=UC flat hu hm ha hl (QO T l one) (fun l' hp hs=>by
  obtain⟨m,rfl,JK⟩:=Jt T.f hp;rw[TyD.uniq T (JK.trans (T.sort_perm l).symm) ?_ (T.sort_sorted l)];rw[List.map_map,List.pairwise_map]at hs;refine hs.imp fun {x y} h=>?_;unfold TyD.le;have:lx (flat (T.f y)) (flat (T.f x))=false:=h;rw[this];rfl) hg he
end
def TSq:TyD Sq:=⟨sq,Fh,fun x y=>(KZ x y).lt,fun x y=>(KZ x y).eq,fun x=>Am x 7,fun _ _=>rfl⟩
theorem Cj(p:ED):AH 8 (Ay p)=true:=by simp only[Ay,AH,List.all_cons,List.all_nil,Bool.and_true,Bool.and_eq_true];exact⟨Am _ 6,Am _ 6⟩
def TSt:TyD ED:=⟨Ay,FJ,fun x y=>(Dt x y).lt,fun x y=>(Dt x y).eq,Cj,fun _ _=>rfl⟩
theorem UM(L:Lay):AH 8 (lay L)=true:=by simp only[lay,AH,List.all_eq_true];intro x hx;obtain⟨p,_,rfl⟩:=List.mem_map.mp hx;simp only[Ay,AH,List.all_cons,List.all_nil,Bool.and_true,Bool.and_eq_true];exact⟨Am _ 5,Am _ 5⟩
theorem Yh(L M:Lay):Bz 8 (lay L) (lay M)=true:=by
 simp only[lay,Bz,List.all_eq_true];intro x hx
 have:=List.of_mem_zip (show(x.1,x.2)∈_ from hx)
 obtain⟨p,_,e1⟩:=List.mem_map.mp this.1;obtain⟨q,_,e2⟩:=List.mem_map.mp this.2;rw[<-e1,<-e2];rfl
def cC:TyD Lay:=⟨lay,HQ,fun x y=>(SA x y).1,fun x y=>(SA x y).2,UM,Yh⟩
theorem K8{s:Shared}{A:Around}{n:Nat}(hu:A.units+1+n<cLine){l m:List Dat}{is js:List Value}(hl:l.all (AH n)=true)(hm:m.all (AH n)=true)(rl:AtL s.heap l is)(rm:AtL s.heap m js) :
  ∀j (h1:j<is.toArray.size) (h2:j<js.toArray.size),SeqAt.EqAt A.in1 s is.toArray[j] js.toArray[j] ((fun j=>match l[j]?,m[j]? with|some x,some y=>eqD x y|_,_=>true) j):=by
 intro j h1 h2;have P9:j<is.length:=by simpa using h1
 have Tg:j<js.length:=by simpa using h2
 have l1:j<l.length:=by rw[<-rl.length];exact P9
 have l2:j<m.length:=by rw[<-rm.length];exact Tg
 obtain⟨u1,f1,q1⟩:=rl.get (List.getElem?_eq_getElem l1);obtain⟨u2,f2,q2⟩:=rm.get (List.getElem?_eq_getElem l2);rw[List.getElem?_eq_getElem P9]at f1;rw[List.getElem?_eq_getElem Tg]at f2;cases f1;cases f2;have hx:AH n l[j]=true:=List.all_eq_true.mp hl _ (List.getElem_mem l1);have hy:AH n m[j]=true:=List.all_eq_true.mp hm _ (List.getElem_mem l2)
 have:=(FZ (A:=A.in1) n hx hy q1 q2 hu).1
 simpa[List.getElem?_eq_getElem l1,List.getElem?_eq_getElem l2]using this
def Rc:Dat->Dat->Bool
 |.tup _,.tup _=>true
 |.lst _,.lst _=>true
 |.int _,.int _=>true
 |.str _,.str _=>true
 |.bl _,.bl _=>true
 |_,_=>false
theorem bI{s:Shared}{A:Around}{d e:Dat}{u v:Value}(ha:Rc d e=true)(hd:AH 9 d=true)(he:AH 9 e=true)(rd:AtH s.heap d u)(re:AtH s.heap e v)(hu:A.units+9<cLine):SeqAt.RcNeAt A s u v (!eqD d e):=by
 cases d<;>cases e<;>simp only[Rc,Bool.false_eq_true]at ha<;>rw[AtH]at rd re
 ·subst rd;subst re;simp only[eqD];exact SeqAt.RcNeAt.bool_bool _ _
 ·obtain⟨t,rfl⟩:=rd;obtain⟨t',rfl⟩:=re;simp only[eqD];exact SeqAt.RcNeAt.int_int _ _ _ _
 ·obtain⟨t,rfl⟩:=rd;obtain⟨t',rfl⟩:=re;simp only[eqD];exact SeqAt.RcNeAt.str_str _ _ _ _
 ·rename_i l m;obtain⟨a,is,rfl,ti,rl⟩:=rd;obtain⟨b,js,rfl,tj,rm⟩:=re
  have:=SeqAt.RcNeAt.tuples (A:=A) ti tj (by lia) (K8 (n:=8) (by lia) (by simpa[AH]using hd) (by simpa[AH]using he) rl rm)
  rw[eqD,Dw];rw[List.size_toArray,List.size_toArray,rl.length,rm.length]at this;exact this
 ·rename_i l m;obtain⟨a,is,rfl,ti,rl⟩:=rd;obtain⟨b,js,rfl,tj,rm⟩:=re;have e1:is.toArray.size=l.length:=by rw[List.size_toArray,rl.length]
  have e2:js.toArray.size=m.length:=by rw[List.size_toArray,rm.length]
  rw[eqD,Dw];by_cases hsz:l.length=m.length
  ·have:=SeqAt.RcNeAt.lists (A:=A) ti tj (by rw[e1,e2,hsz]) (by lia) (K8 (n:=8) (by lia) (by simpa[AH]using hd) (by simpa[AH]using he) rl rm)
   rw[e1]at this;rw[hsz,Nat.min_self,beq_self_eq_true,Bool.and_true,<-hsz];exact this
  ·have:=SeqAt.RcNeAt.lists_lengths (A:=A) ti tj (by rw[e1,e2];simpa using hsz) (by lia)
   rw[show(l.length==m.length)=false by simpa using hsz,Bool.and_false];exact this
section
variable {X:Cx}{ρ:Rho}{G:Gs}{e a b c:Expr}{es:List Expr}{d d' d1 d2 d3 k:Dat}{ds l m:List Dat}{pos:Pos}{i j z:Int}{p:Addr}{D:DE}{rest body:List Stmt}
theorem bW(hu:X.A.units+9<cLine):OpR X (compareOp .NotEq) (fun x y H Q=>∃d e,Rep X.K H d x/\Rep X.K H e y/\Rc d e=true/\AH 9 d=true/\AH 9 e=true/\Q (.bl (!eqD d e)) H):=by intro AD s σ H x y v u Q I rx ry h;obtain⟨d,e,h1,h2,h3,h4,h5,q⟩:=h;exact bI h3 h4 h5 (h1.at I h4 rx) (h2.at I h5 ry) hu _ _ _ _ ⟨.bl _,H,I,rfl,q⟩
theorem ZC(st:Bool)(hu:X.A.units+9<cLine):OpR X (compareOp (eF st)) (fun x y H Q=>∃d e,Rep X.K H d x/\Rep X.K H e y/\Bz 9 d e=true/\AH 9 d=true/\AH 9 e=true/\Q (.bl (CK st d e)) H):=by
 intro AD s σ H x y v u Q I rx ry h;obtain⟨d,e,h1,h2,h3,h4,h5,q⟩:=h
 have:=KW (A:=X.A) (s:=s) st 9 h3 h4 h5 (h1.at I h4 rx) (h2.at I h5 ry) hu X.prog X.w X.xe (EP X AD σ Q) ⟨.bl _,H,I,rfl,q⟩
 cases st with
 |true=>exact this
 |false=>exact this
theorem RZ(hu:X.A.units+9<cLine)(ha:PX X ρ G a d1)(hb:PX X ρ G b d2)(h:Rc d1 d2=true)(p1:AH 9 d1=true)(p2:AH 9 d2=true):PXC X ρ G .NotEq a b (.bl (!eqD d1 d2)):=EM (bW hu) ha hb fun H x y Q o hx hy k=>⟨d1,d2,hx.same AJ,hy.same AJ,h,p1,p2,k _ _ (Ba o rfl)⟩
theorem Yq(hu:X.A.units+9<cLine)(ha:PX X ρ G a d1)(hb:PX X ρ G b d2)(h:Bz 9 d1 d2=true)(p1:AH 9 d1=true)(p2:AH 9 d2=true):PXC X ρ G .Lt a b (.bl (CK true d1 d2)):=EM (ZC true hu) ha hb fun H x y Q o hx hy k=>⟨d1,d2,hx.same AJ,hy.same AJ,h,p1,p2,k _ _ (Ba o rfl)⟩
theorem Zi{Q:Dat->Gs->Prop}(ha:PX X ρ G a (.lst l))(hb:WE X ρ G b fun d G'=>∃m,d=.lst m/\l.length+m.length<=sizeLine/\Q (.lst (l++m)) G'):WE X ρ G (.BinOp a .Add b pos) Q:=Bb (Zy Vx Av Av) fun σ H S=>⟨ρ,G,_,ha,S,fun x H1 ⟨_,_,e1,o1,r1,q1,BZ⟩=>by
  subst q1;subst BZ;refine⟨ρ,_,_,hb,S.ext e1 o1,fun y H2 ⟨d2,G2,e2,o2,r2,m,hm,hz,q⟩=>?_⟩;subst hm;have Uc:=r1.same e2.hid;rw[Rep]at Uc r2;obtain⟨p1,eQ,rfl,h1,s1⟩:=Uc;obtain⟨p2,fA,rfl,h2,s2⟩:=r2;refine⟨p1,p2,eQ,fA,rfl,rfl,AJ _ _ h1,AJ _ _ h2,by rw[s1.length,s2.length];exact hz,fun t ht=>?_⟩;have E3:Ext H2 G2 (upd H2 t (.lst (eQ++fA))) G2:=Ext.alloc ht;refine⟨.lst (l++m),G2,(e1.trans e2).trans E3,o2.alloc ht,?_,q⟩;rw[Rep];exact⟨t,eQ++fA,rfl,EY (o2.free ht) Ax,(s1.append s2).same E3.hid⟩⟩
end
section
variable {X:Cx}{ρ:Rho}{G:Gs}{elt AL Ac c:Expr}{scope:Scope}{Au:Pos}{Nc:List Str}{caps:List (Option Nat)}{l:List Dat}{f:Dat->Rho->Option Rho}
theorem OY(g:Dat->Dat)(R:Gs->Prop){Q:Dat->Gs->Prop}(Sc:CompSc X scope Nc caps)(BI:X.calm=true)(hi:WI X ρ G AL Ac fun l' G'=>l'=l/\R G')(hg:∀C s' H' fp,PGD (AW X Nc scope C s' H' fp) AL f)(hle:∀d ρ',f d (A6 caps ρ)=some ρ'->ρ'.length=(A6 caps ρ).length/\∀(j:Nat) e,(A6 caps ρ)[j]?=some (some e)->ρ'[j]?=some (some e))(hz:l.length<sizeLine)(CI:∀C s' H' fp G' d,d∈l->∃ρ',f d (A6 caps ρ)=some ρ'/\PX (AW X Nc scope C s' H' fp) ρ' G' elt (g d))(hQ:∀G',R G'->Q (.lst (l.map g)) G')(OZ:∀x,foldedSetIterable Ac X.env x=pure x:=by intro _;rfl) :
  WE X ρ G (.ListComp elt [⟨AL,Ac,[],0⟩] scope Au) Q:=by
 refine NL (Pv:=fun i Ae G'=>R G'/\Ae=(l.take i).map g) (IE elt AL Ac scope Au) Sc BI (fun AD s σ H I S=>thn (hi AD s σ H I S) fun v s1 h1=>thn h1 fun dQ s2 hh=>by obtain⟨it,fp,tn,J,H',e,I',T,st,fk,l',G',e',o',wk,q1,q2⟩:=hh;exact⟨it,fp,tn,J,H',e,I',T,st,fk,l',G',e',o',wk,q1,q2,by simp⟩) hg hle (Nat.le_of_lt hz) ?_ ?_ OZ
 ·rintro C s' H' fp Dd i d Ae G' hd ⟨hR,rfl⟩ hD;obtain⟨ρ',h1,h2⟩:=CI C s' H' fp (put G' Dd (.lst ((l.take i).map g))) d (List.mem_of_getElem? hd);refine⟨ρ',h1,Ee rfl AI ?_ (PX.we h2 ⟨AI,_,G',?_,hD,A3,hR,?_⟩)⟩
  ·have:((l.take i).map g).length<=l.length:=by rw[List.length_map,List.length_take];lia
   lia
  ·simp
  ·rw[List.take_add_one,hd];simp
 ·rintro Ae G' ⟨hR,rfl⟩;rw[List.take_length];exact hQ G' hR
end
def CT(F:List Sq)(z o:Sq):List Sq:=F.filter fun x=>!decide (x=z)&&!decide (x=o)
def AQ(F:List Sq):Sq:=F.getLastD (0,0)
def Cg(F:List Sq)(z:Sq):List Sq:=(nbM z).filter F.contains
def Dg:Nat->List Sq->List Lay
 |0,F=>if F=[]then[[]]else[]
 |n+1,F=>if F=[]then[[]]else(Cg F (AQ F)).flatMap fun o=>(Dg n (CT F (AQ F) o)).map (·++[(o,AQ F)])
def BA(F:List Sq):List Lay:=Dg F.length F
theorem FX{F:List Sq}(h:F≠[]):AQ F∈F:=by unfold AQ;rw[List.getLastD_eq_getLast?,List.getLast?_eq_some_getLast h];exact List.getLast_mem h
theorem Mx{F:List Sq}(h:F≠[])(o:Sq):(CT F (AQ F) o).length<F.length:=by unfold CT;refine List.length_filter_lt_length_iff_exists.mpr ⟨_,FX h,by simp⟩
theorem Ld:∀(n m:Nat)(F:List Sq),F.length<=n->F.length<=m->Dg n F=Dg m F
 |0,0,F,_,_=>rfl
 |0,m+1,F,h,_=>by
  have:F=[]:=List.length_eq_zero_iff.mp (by lia);subst this;rfl
 |n+1,0,F,_,h=>by
  have:F=[]:=List.length_eq_zero_iff.mp (by lia);subst this;rfl
 |n+1,m+1,F,h1,h2=>by
  unfold Dg;split
  ·rfl
  ·rename_i Bq;have:∀o,Dg n (CT F (AQ F) o)=Dg m (CT F (AQ F) o):=fun o=>Ld n m _ (by have:=Mx Bq o;lia) (by have:=Mx Bq o;lia);simp only[this]
theorem CQ:BA []=[[]]:=rfl
theorem GI{F:List Sq}(h:F≠[]):BA F=(Cg F (AQ F)).flatMap fun o=>(BA (CT F (AQ F) o)).map (·++[(o,AQ F)]):=by
 unfold BA;obtain⟨n,hn⟩:∃n,F.length=n+1:=⟨F.length-1,by have:=List.length_pos_iff.mpr h;lia⟩;rw[hn]
 conv=>lhs;unfold Dg
 rw[if_neg h];have:∀o,Dg n (CT F (AQ F) o)=Dg (CT F (AQ F) o).length (CT F (AQ F) o):=fun o=>Ld _ _ _ (by have:=Mx h o;lia) (Nat.le_refl _);simp only[this]
def Cn(l:Lay):List Sq:=l.flatMap fun s=>[s.1,s.2]
structure Cov (F:List Sq) (l:Lay):Prop where
 st:∀s∈l,AZ s.1 s.2/\s.2∈nbM s.1
 pm:(Cn l).Perm F
theorem Fx{l:Lay}{x:Sq}:x∈Cn l↔∃s∈l,x=s.1\/x=s.2:=by unfold Cn;simp[List.mem_flatMap]
theorem OT{l m:Lay}(h:l.Perm m):(Cn l).Perm (Cn m):=h.flatMap_right _
theorem Sa{a b:Sq}(h:a∈nbM b):b∈nbM a:=by
 obtain⟨a1,a2⟩:=a;obtain⟨b1,b2⟩:=b;simp only[nbM,List.mem_cons,List.not_mem_nil,or_false,Prod.mk.injEq]at *;rcases h with⟨h1,h2⟩|⟨h1,h2⟩|⟨h1,h2⟩|⟨h1,h2⟩<;>subst h1 h2
 ·exact .inr (.inr (.inr ⟨(Int.sub_add_cancel _ _).symm,rfl⟩))
 ·exact .inr (.inr (.inl ⟨rfl,(Int.sub_add_cancel _ _).symm⟩))
 ·exact .inr (.inl ⟨rfl,(Int.add_sub_cancel _ _).symm⟩)
 ·exact .inl ⟨(Int.add_sub_cancel _ _).symm,rfl⟩
theorem OU{a b:Sq}(h:a∈nbM b):a≠b:=by rintro rfl;obtain⟨a1,a2⟩:=a;simp only[nbM,List.mem_cons,List.not_mem_nil,or_false,Prod.mk.injEq]at h;lia
theorem Ju{F:List Sq}(up:F.Pairwise AZ){x:Sq}(hx:x∈F):x=AQ F\/AZ x (AQ F):=by
 have h:F≠[]:=List.ne_nil_of_mem hx;unfold AQ;rw[List.getLastD_eq_getLast?,List.getLast?_eq_some_getLast h,Option.getD_some];rw[<-List.dropLast_concat_getLast h]at hx up;rcases List.mem_append.mp hx with h1|h1
 ·right;exact(List.pairwise_append.mp up).2.2 x h1 _ (by simp)
 ·left;simpa using h1
theorem Lw{F:List Sq}(up:F.Pairwise AZ):F.Nodup:=up.imp fun {a b} IG e=>by subst e;exact A4 _ IG
theorem Me{F:List Sq}{z o x:Sq}:x∈CT F z o↔x∈F/\x≠z/\x≠o:=by simp[CT]
theorem Kw{F:List Sq}(nd:F.Nodup){z o:Sq}(hz:z∈F)(ho:o∈F)(Bq:o≠z):(o::z::CT F z o).Perm F:=by
 rw[List.perm_ext_iff_of_nodup _ nd]
 ·intro x;simp only[List.mem_cons,Me];by_cases h1:x=o
  ·subst h1;simp[ho]
  ·by_cases h2:x=z
   ·subst h2;simp[hz]
   ·simp[h1,h2]
 ·refine List.nodup_cons.mpr ⟨?_,List.nodup_cons.mpr ⟨?_,nd.sublist List.filter_sublist⟩⟩
  ·simp only[List.mem_cons,Me];rintro(h|h)
   ·exact Bq h
   ·exact h.2.2 rfl
  ·simp[Me]
theorem Gq{F:List Sq}(up:F.Pairwise AZ)(z o:Sq):(CT F z o).Pairwise AZ:=up.sublist List.filter_sublist
theorem Fj{F:List Sq}{z o:Sq}:o∈Cg F z↔o∈nbM z/\o∈F:=by simp[Cg]
theorem FU{F:List Sq}(up:F.Pairwise AZ){o:Sq}(h:F≠[])(ho:o∈Cg F (AQ F)):(CT F (AQ F) o).length+2=F.length:=by
 obtain⟨h1,h2⟩:=Fj.mp ho
 have:=(Kw (Lw up) (FX h) h2 (OU h1)).length_eq
 simpa using this
theorem Y0(l m:Lay):Cn (l++m)=Cn l++Cn m:=by simp[Cn]
theorem GC:∀(n:Nat){F:List Sq},F.length<=n->F.Pairwise AZ->∀r∈BA F,Cov F r:=by
 intro n
 induction n with
 |zero=>
  intro F hl up r hr;have:F=[]:=List.length_eq_zero_iff.mp (by lia);subst this;rw[CQ,List.mem_singleton]at hr;subst hr;exact⟨by simp,.refl _⟩
 |succ n ih=>
  intro F hl up r hr;by_cases h:F=[]
  ·subst h;rw[CQ,List.mem_singleton]at hr;subst hr;exact⟨by simp,.refl _⟩
  rw[GI h,List.mem_flatMap]at hr;obtain⟨o,ho,hr⟩:=hr;obtain⟨r',q8,rfl⟩:=List.mem_map.mp hr;have Tx:=FU up h ho;obtain⟨h1,h2⟩:=Fj.mp ho;have C:=ih (by lia) (Gq up _ _) r' q8;refine⟨fun s hs=>?_,?_⟩
  ·rcases List.mem_append.mp hs with hs|hs
   ·exact C.st s hs
   ·rw[List.mem_singleton.mp hs];refine⟨?_,Sa h1⟩;rcases Ju up h2 with e|e
    ·exact absurd e (OU h1)
    ·exact e
  ·rw[Y0];show(Cn r'++[o,AQ F]).Perm F;exact(List.perm_append_comm.trans (C.pm.append_left [o,AQ F])).trans (Kw (Lw up) (FX h) h2 (OU h1))
theorem UT:∀(n:Nat){F:List Sq}{l:Lay},F.length<=n->F.Pairwise AZ->Cov F l->∃r∈BA F,r.Perm l:=by
 intro n
 induction n with
 |zero=>
  intro F l hl up C;have:F=[]:=List.length_eq_zero_iff.mp (by lia);subst this
  have:=C.pm.length_eq
  cases l with
  |nil=>exact⟨[],by simp[CQ],.refl _⟩
  |cons s l=>simp[Cn]at this
 |succ n ih=>
  intro F l hl up C;by_cases h:F=[]
  ·subst h
   have:=C.pm.length_eq
   cases l with
   |nil=>exact⟨[],by simp[CQ],.refl _⟩
   |cons s l=>simp[Cn]at this
  obtain⟨s,hs,he⟩:=Fx.mp (C.pm.mem_iff.mpr (FX h));have d9:s.1∈F:=C.pm.mem_iff.mp (Fx.mpr ⟨s,hs,.inl rfl⟩);have RF:s.2∈F:=C.pm.mem_iff.mp (Fx.mpr ⟨s,hs,.inr rfl⟩);obtain⟨slt,qV⟩:=C.st s hs;have hz:s.2=AQ F:=by
   rcases he with e|e
   ·rcases Ju up RF with q|q
    ·exact q
    ·rw[e]at q;exact absurd (CN slt q) (A4 _)
   ·exact e.symm
  have ho:s.1∈Cg F (AQ F):=Fj.mpr ⟨hz▸Sa qV,d9⟩;have hp:l.Perm (s::l.erase s):=List.perm_cons_erase hs;have JU:(s.1::s.2::Cn (l.erase s)).Perm F:=by
   refine List.Perm.trans ?_ C.pm;exact(OT hp).symm
  have Tx:=FU up h ho;have C':Cov (CT F (AQ F) s.1) (l.erase s):=by
   refine⟨fun t ht=>C.st t (List.mem_of_mem_erase ht),?_⟩
   have:=JU.trans (Kw (Lw up) (FX h) d9 (OU (Fj.mp ho).1)).symm
   rw[hz]at this;exact(List.perm_cons _).mp ((List.perm_cons _).mp this)
  obtain⟨r,hr,jl⟩:=ih (by lia) (Gq up _ _) C';refine⟨r++[(s.1,AQ F)],?_,?_⟩
  ·rw[GI h,List.mem_flatMap];exact⟨s.1,ho,List.mem_map.mpr ⟨r,hr,rfl⟩⟩
  ·rw[show(s.1,AQ F)=s by rw[<-hz]];exact(List.perm_append_comm.trans (jl.append_left [s])).trans hp.symm
theorem ZG(F:List Sq)(z:Sq):(Cg F z).Nodup:=(OH z).sublist List.filter_sublist
theorem PM{F:List Sq}(up:F.Pairwise AZ):(Cg F (AQ F)).length<=2:=by
 have hs:∀x∈Cg F (AQ F),x∈[((AQ F).1-1,(AQ F).2),((AQ F).1,(AQ F).2-1)]:=by
  intro x hx;obtain⟨h1,h2⟩:=Fj.mp hx;rcases Ju up h2 with e|e
  ·exact absurd e (OU h1)
  ·generalize AQ F=z at *;obtain⟨x1,x2⟩:=x;obtain⟨z1,z2⟩:=z;simp only[nbM,List.mem_cons,List.not_mem_nil,or_false,Prod.mk.injEq]at h1 ⊢;have e':x1<z1\/(x1=z1/\x2<z2):=e;clear e h2 hx;rcases h1 with h1|h1|⟨h1,h3⟩|⟨h1,h3⟩
   ·exact .inl h1
   ·exact .inr h1
   ·lia
   ·lia
 have:=BE (ZG F (AQ F)) hs
 simpa using this
theorem Ie:∀(n:Nat){F:List Sq},F.length<=2*n->F.Pairwise AZ->(BA F).length<=2 ^ n:=by
 intro n
 induction n with
 |zero=>
  intro F hl up;have:F=[]:=List.length_eq_zero_iff.mp (by lia);subst this;rw[CQ];exact Nat.le_refl _
 |succ n ih=>
  intro F hl up;by_cases h:F=[]
  ·subst h;rw[CQ];exact Nat.one_le_two_pow
  rw[GI h,List.length_flatMap];have:∀(l:List Sq),(∀o∈l,o∈Cg F (AQ F))->(l.map fun o=>((BA (CT F (AQ F) o)).map (·++[(o,AQ F)])).length).sum<=l.length*2 ^ n:=by
   intro l
   induction l with
   |nil=>simp
   |cons o l fg=>
    intro hm;have h1:=fg fun x hx=>hm x (List.mem_cons_of_mem _ hx);have Tx:=FU up h (hm o (List.mem_cons_self ..));have h2:=ih (F:=CT F (AQ F) o) (by lia) (Gq up _ o);rw[List.map_cons,List.sum_cons,List.length_map,List.length_cons,Nat.succ_mul];lia
  have h3:=this _ fun _ h=>h;have h4:=Nat.mul_le_mul_right (2 ^ n) (PM up);rw[Nat.pow_succ,Nat.mul_comm];lia
theorem Pk(s t:ED):lx (flat (Ay s)) (flat (Ay t))=decide (AZ s.1 t.1\/(s.1=t.1/\AZ s.2 t.2)):=by obtain⟨⟨a,b⟩,c,d⟩:=s;obtain⟨⟨a',b'⟩,c',d'⟩:=t;show HT.lexLt [a,b,c,d] [a',b',c',d']=_;rw[HT.lexLt_cons,HT.lexLt_cons,HT.lexLt_cons,HT.lexLt_cons];have e0:HT.lexLt [] []=false:=rfl;rw[e0,Bool.eq_iff_iff,decide_eq_true_iff];simp only[AZ,Prod.mk.injEq];by_cases h1:a=a'<;>by_cases h2:b=b'<;>by_cases h3:c=c'<;>by_cases h4:d=d'<;>simp[h1,h2,h3,h4]<;>lia
theorem Zn(s t:Sq):lx (flat (sq s)) (flat (sq t))=decide (AZ s t):=by obtain⟨a,b⟩:=s;obtain⟨a',b'⟩:=t;show HT.lexLt [a,b] [a',b']=_;rw[HT.lexLt_cons,HT.lexLt_cons];have e0:HT.lexLt [] []=false:=rfl;rw[e0,Bool.eq_iff_iff,decide_eq_true_iff];simp only[AZ];by_cases h1:a=a'<;>by_cases h2:b=b'<;>simp[h1,h2]<;>lia
structure IsLay (F:List Sq) (l:Lay):Prop extends Cov F l where
 up:l.Pairwise fun s t=>AZ s.1 t.1
theorem VG{l:Lay}(h:(Cn l).Nodup):l.Pairwise fun s t=>s.1≠t.1/\s.1≠t.2/\s.2≠t.1/\s.2≠t.2:=by unfold Cn List.Nodup at h;rw[List.pairwise_flatMap]at h;refine h.2.imp fun {s t} h=>?_;exact⟨h _ (by simp) _ (by simp),h _ (by simp) _ (by simp),h _ (by simp) _ (by simp),h _ (by simp) _ (by simp)⟩
theorem Cov.perm{F:List Sq}{l m:Lay}(C:Cov F l)(h:m.Perm l):Cov F m:=⟨fun s hs=>C.st s (h.mem_iff.mp hs),(OT h).trans C.pm⟩
theorem Cov.lay{F:List Sq}{l:Lay}(C:Cov F l)(nd:F.Nodup):IsLay F (TSt.sort l):=by
 have C':=C.perm (TSt.sort_perm l);refine⟨C',?_⟩;have h1:=TSt.sort_sorted l;have h2:=VG (C'.pm.nodup_iff.mpr nd);refine(h1.and h2).imp fun {s t} h=>?_;obtain⟨h1,h2,_⟩:=h;unfold TyD.le at h1;rw[show TSt.f=Ay from rfl,Pk]at h1;simp only[Bool.not_eq_true',decide_eq_false_iff_not,not_or,not_and]at h1;rcases Vk s.1 t.1 with h|h|h
 ·exact h
 ·exact absurd h h2
 ·exact absurd h h1.1
theorem IsLay.sorted{F:List Sq}{l:Lay}(I:IsLay F l):l.Pairwise fun x y=>TSt.le x y=true:=I.up.imp fun {s t} h=>by
 unfold TyD.le;rw[show TSt.f=Ay from rfl,Pk];simp only[Bool.not_eq_true',decide_eq_false_iff_not,not_or,not_and];refine⟨fun h'=>A4 _ (CN h h'),fun e=>?_⟩;rw[e]at h;exact absurd h (A4 _)
theorem IsLay.uniq{F:List Sq}{l m:Lay}(I:IsLay F l)(J:IsLay F m)(h:l.Perm m):l=m:=TSt.uniq h I.sorted J.sorted
def DR(F:List Sq):List Lay:=cC.sort ((BA F).map TSt.sort)
theorem Y9{F:List Sq}(up:F.Pairwise AZ){l:Lay}:l∈DR F↔IsLay F l:=by
 unfold DR;rw[(cC.sort_perm _).mem_iff,List.mem_map];constructor
 ·rintro⟨r,hr,rfl⟩;exact(GC _ (Nat.le_refl _) up r hr).lay (Lw up)
 ·intro I;obtain⟨r,hr,hp⟩:=UT _ (Nat.le_refl _) up I.toCov;exact⟨r,hr,((GC _ (Nat.le_refl _) up r hr).lay (Lw up)).uniq I ((TSt.sort_perm r).trans hp)⟩
def PQ(r:Lay):Dat:=.lst (r.map Ay)
def Hk(l:List Lay):Dat:=.lst (l.map PQ)
def ValidE(Ad:List (Dat×Dat)):Prop:=∀p∈Ad,∃F:List Sq,p.1=fl F/\p.2=Hk (BA F)
theorem QM(F:List Sq):B4 6 (fl F)=true:=by simp only[B4,fl];rw[List.all_eq_true];intro d hd;obtain⟨p,_,rfl⟩:=List.mem_map.mp hd;rfl
theorem ValidE.look{Ad:List (Dat×Dat)}(h:ValidE Ad){F:List Sq}{d:Dat}(e:A1 Ad (fl F)=some d):d=Hk (BA F):=by unfold A1 at e;obtain⟨p,hp,rfl⟩:=Option.map_eq_some_iff.mp e;have hm:=List.mem_of_find?_eq_some hp;have hk:=List.find?_some hp;have DP:p.1=fl F:=of_decide_eq_true hk;obtain⟨F',h1,h2⟩:=h p hm;rw[DP]at h1;rw[ax h1];exact h2
theorem ValidE.put{Ad:List (Dat×Dat)}(h:ValidE Ad)(F:List Sq):ValidE (Hq Ad (fl F) (Hk (BA F))):=by
 unfold Hq;intro p hp;split at hp
 ·obtain⟨x,hx,rfl⟩:=List.mem_map.mp hp;by_cases e:x.1=fl F
  ·rw[if_pos e];exact⟨F,e,rfl⟩
  ·rw[if_neg e];exact h x hx
 ·rcases List.mem_append.mp hp with hp|hp
  ·exact h p hp
  ·rw[List.mem_singleton.mp hp];exact⟨F,rfl,rfl⟩
theorem Q1(Ad:List (Dat×Dat))(k v:Dat):A1 (Hq Ad k v) k=some v:=by
 by_cases h:(A1 Ad k).isSome=true
 ·have:∀(Ad:List (Dat×Dat)),(A1 Ad k).isSome=true->A1 (Ad.map fun x=>if x.1=k then(x.1,v)else x) k=some v:=by
   intro Ad
   induction Ad with
   |nil=>intro h;simp[A1]at h
   |cons p r ih=>
    intro h;by_cases e:p.1=k
    ·simp[A1,e]
    ·have h':(A1 r k).isSome=true:=by simpa[A1,e]using h
     have:=ih h'
     simpa[A1,e]using this
  unfold Hq;rw[if_pos h];exact this Ad h
 ·unfold Hq;rw[if_neg h];have hn:Ad.find? (fun x=>decide (x.1=k))=none:=by
   cases q:Ad.find? (fun x=>decide (x.1=k))with
   |none=>rfl
   |some p=>exact absurd (by simp[A1,q]) h
  simp[A1,List.find?_append,hn]
def Jh(n:Nat):SpD:=fun ds G R=>∃(F:List Sq)(kp:Addr)(Ad:List (Dat×Dat)),ds=[fl F,.fn kp]/\F.Pairwise AZ/\F.length<=2*n/\n<=12/\G kp=some (.dct Ad)/\ValidE Ad/\Ad.length+2 ^ n<=2 ^ 12+1 ∧
 ∀Ct,ValidE Ct->Ct.length+1<=Ad.length+2 ^ n->R (Hk (BA F)) (put G kp (.dct Ct))
def Zx:SpD:=fun ds G R=>∃F:List Sq,ds=[fl F]/\F≠[]/\F.Pairwise AZ/\F.length<=24/\R (.lst ((DR F).map lay)) G
theorem Yz{F:List Sq}(h:F≠[]):atI (F.map sq) (-1)=some (sq (AQ F)):=by refine JT sq ?_;unfold atI ixN;have:0<F.length:=List.length_pos_iff.mpr h;rw[if_neg (by lia),if_pos (by lia)];show F[((F.length:Int)+-1).toNat]?=_;unfold AQ;rw[List.getLastD_eq_getLast?,List.getLast?_eq_getElem?];rw[show((F.length:Int)+-1).toNat=F.length-1 by lia,List.getElem?_eq_getElem (by lia)];rfl
theorem SW{F:List Sq}{l:Lay}(C:Cov F l):2*l.length=F.length:=by
 rw[<-C.pm.length_eq];unfold Cn;rw[List.length_flatMap];clear C
 induction l with
 |nil=>rfl
 |cons a l ih=>rw[List.map_cons,List.sum_cons,List.length_cons,<-ih];simp;lia
def via{α β:Type}[Inhabited β](h:α->Dat)(g:α->β)(d:Dat):β:=have:=Classical.propDecidable (∃x,h x=d)
 if e:∃x,h x=d then g e.choose else default
instance:Inhabited Dat:=⟨.non⟩
theorem U8{α β:Type}[Inhabited β]{h:α->Dat}(inj:∀{x y},h x=h y->x=y)(g:α->β)(x:α):via h g (h x)=g x:=by unfold via;have e:∃y,h y=h x:=⟨x,rfl⟩;simp only[e,dif_pos];rw[inj e.choose_spec]
theorem X0{α:Type}{h:α->Dat}(inj:∀{x y},h x=h y->x=y)(g:α->Dat)(l:List α):(l.map h).map (via h g)=l.map g:=by rw[List.map_map];exact List.map_congr_left fun x _=>U8 inj g x
theorem Oj{α:Type}{h:α->Dat}(inj:∀{x y},h x=h y->x=y):∀{l m:List α},l.map h=m.map h->l=m
 |[],[],_=>rfl
 |[],_::_,h=>by simp at h
 |_::_,[],h=>by simp at h
 |p::l,q::m,h=>by
  simp only[List.map_cons,List.cons.injEq]at h;rw[inj h.1,Oj inj h.2]
theorem Oz{r r':Lay}(h:PQ r=PQ r'):r=r':=by simp only[PQ,Dat.lst.injEq]at h;exact Oj Sw h
theorem XO(x y:Sq):CK true (sq x) (sq y)=decide (AZ x y):=by
 have:=TSq.lt x y
 rw[show TSq.f=sq from rfl,Zn]at this;exact this
theorem fV{q o:Sq}(h:o∈nbM q)(Ar:AZ q o):o=(q.1,q.2+1)\/o=(q.1+1,q.2):=by
 obtain⟨a,b⟩:=q;obtain⟨c,d⟩:=o;simp only[nbM,List.mem_cons,List.not_mem_nil,or_false,Prod.mk.injEq]at h ⊢;have e:a<c\/(a=c/\b<d):=Ar;rcases h with⟨h1,h2⟩|⟨h1,h2⟩|h|h
 ·lia
 ·lia
 ·exact .inl h
 ·exact .inr h
theorem L1(s t:ED):eqD (Ay s) (Ay t)=decide (s=t):=by obtain⟨a,b⟩:=s;obtain⟨c,d⟩:=t;show(eqD (sq a) (sq c)&&(eqD (sq b) (sq d)&&true))=_;rw[Kh,Kh,Bool.and_true,Bool.eq_iff_iff];simp
theorem IW(l:List ED)(s:ED):((l.map Ay).any fun e=>eqD e (Ay s))=l.contains s:=by
 rw[Bool.eq_iff_iff,List.any_map,List.any_eq_true,List.contains_iff_mem];constructor
 ·rintro⟨x,hx,e⟩;have e':eqD (Ay x) (Ay s)=true:=e;rw[L1,decide_eq_true_eq]at e';exact e'▸hx
 ·intro h;exact⟨s,h,by show eqD (Ay s) (Ay s)=true;rw[L1];simp⟩
theorem EZ(l:List ED):(l.map Ay).all (AH 8)=true:=by rw[List.all_eq_true];intro d hd;obtain⟨s,_,rfl⟩:=List.mem_map.mp hd;exact Cj s
end TF
namespace TF
open PySem
def LW(mask:Nat)(p:SetTable.Probe):SetTable.Probe:=if p.more > 0 then { p with j:=p.j+1,more:=p.more-1 }else
  { p with j:=(SetTable.leap mask p.i p.perturb).1,more:=SetTable.runEnd mask (SetTable.leap mask p.i p.perturb).1-(SetTable.leap mask p.i p.perturb).1,i:=(SetTable.leap mask p.i p.perturb).1,perturb:=(SetTable.leap mask p.i p.perturb).2 }
def IB(mask i perturb:Nat):SetTable.Probe:={ j:=i,more:=SetTable.runEnd mask i-i,i,perturb,dummy:=none }
def itr(mask:Nat):Nat->SetTable.Probe->SetTable.Probe
 |0,p=>p
 |m+1,p=>itr mask m (LW mask p)
theorem Hw(mask:Nat):∀(a b:Nat)(p:SetTable.Probe),itr mask (a+b) p=itr mask b (itr mask a p)
 |0,b,p=>by rw[Nat.zero_add];rfl
 |a+1,b,p=>by rw[Nat.succ_add];exact Hw mask a b (LW mask p)
theorem LC(mask m:Nat)(p:SetTable.Probe):itr mask (m+1) p=LW mask (itr mask m p):=by rw[Hw mask m 1 p];rfl
theorem Tt(mask:Nat)(p:SetTable.Probe):(LW mask p).dummy=p.dummy:=by unfold LW;split<;>rfl
theorem J0(mask i perturb:Nat):∀r,r<=SetTable.runEnd mask i-i->itr mask r (IB mask i perturb)={ j:=i+r,more:=SetTable.runEnd mask i-i-r,i,perturb,dummy:=none }
 |0,_=>rfl
 |r+1,h=>by
  rw[LC,J0 mask i perturb r (by lia)];unfold LW;rw[if_pos (by show SetTable.runEnd mask i-i-r > 0;lia)];simp only[SetTable.Probe.mk.injEq,and_true];constructor<;>lia
theorem RN(mask i:Nat):SetTable.runEnd mask i-i<=9:=by unfold SetTable.runEnd;split<;>lia
theorem Jj(mask i perturb:Nat):itr mask (SetTable.runEnd mask i-i+1) (IB mask i perturb)=IB mask (SetTable.leap mask i perturb).1 (SetTable.leap mask i perturb).2:=by rw[LC,J0 mask i perturb _ (Nat.le_refl _)];unfold LW;rw[if_neg (by show ¬SetTable.runEnd mask i-i-(SetTable.runEnd mask i-i) > 0;lia)];rfl
def Bg(mask:Nat):Nat->Nat×Nat->Nat×Nat
 |0,p=>p
 |k+1,p=>SetTable.leap mask (Bg mask k p).1 (Bg mask k p).2
theorem Jr(mask i perturb:Nat):∀k,∃m≤10*k,itr mask m (IB mask i perturb)=IB mask (Bg mask k (i,perturb)).1 (Bg mask k (i,perturb)).2
 |0=>⟨0,Nat.le_refl _,rfl⟩
 |k+1=>by
  obtain⟨m,hm,e⟩:=Jr mask i perturb k;have hl:=RN mask (Bg mask k (i,perturb)).1;refine⟨m+(SetTable.runEnd mask (Bg mask k (i,perturb)).1-(Bg mask k (i,perturb)).1+1),by lia,?_⟩;rw[Hw,e,Jj];rfl
theorem GX(mask i perturb:Nat):∀k,(Bg mask k (i,perturb)).2=perturb / 32 ^ k
 |0=>by simp[Bg]
 |k+1=>by
  show(Bg mask k (i,perturb)).2 / 32=_;rw[GX mask i perturb k,Nat.div_div_eq_div_mul,Nat.pow_succ]
def HW(n i:Nat):Nat:=(i*5+1)%n
def Ce(n:Nat):Nat->Nat->Nat
 |0,i=>i
 |m+1,i=>HW n (Ce n m i)
theorem G8(mask i perturb:Nat)(hp:perturb<2 ^ 64):∀m,(Bg mask (13+m) (i,perturb)).1=Ce (mask+1) m (Bg mask 13 (i,perturb)).1
 |0=>rfl
 |m+1=>by
  have h0:(Bg mask (13+m) (i,perturb)).2=0:=by
   rw[GX,Nat.div_eq_of_lt];refine Nat.lt_of_lt_of_le hp ?_;rw[Nat.pow_add];have:0<32 ^ m:=Nat.pow_pos (by decide);exact Nat.le_trans (by decide:2 ^ 64<=32 ^ 13) (Nat.le_mul_of_pos_right _ this)
  show(SetTable.leap mask (Bg mask (13+m) (i,perturb)).1 (Bg mask (13+m) (i,perturb)).2).1=_;rw[h0,G8 mask i perturb hp m];rfl
def Cyc(n:Nat):Prop:=∀i<n,∀j<n,∃m<n,Ce n m i=j
theorem GA(n:Nat):∀(a b i:Nat),Ce n (a+b) i=Ce n a (Ce n b i)
 |0,b,i=>by rw[Nat.zero_add];rfl
 |a+1,b,i=>by
  rw[Nat.succ_add];show HW n (Ce n (a+b) i)=HW n (Ce n a (Ce n b i));rw[GA n a b i]
theorem XS{n:Nat}(h0:∀j<n,∃m<n,Ce n m 0=j)(hn:Ce n n 0=0):Cyc n:=fun i hi j hj=>by
 obtain⟨a,ha,ea⟩:=h0 i hi;obtain⟨b,hb,eb⟩:=h0 j hj;by_cases h:a<=b
 ·refine⟨b-a,by lia,?_⟩;rw[<-ea,<-GA,Nat.sub_add_cancel h];exact eb
 ·refine⟨b+n-a,by lia,?_⟩;rw[<-ea,<-GA,show b+n-a+a=b+n by lia,GA,hn];exact eb
theorem je:Cyc 8:=XS (by decide +kernel) (by decide +kernel)
def XU(n:Nat):Nat->Nat->List Nat
 |0,_=>[]
 |k+1,i=>i::XU n k (HW n i)
theorem JF(n:Nat):∀(m i:Nat),Ce n (m+1) i=Ce n m (HW n i)
 |0,_=>rfl
 |m+1,i=>by
  show HW n (Ce n (m+1) i)=HW n (Ce n m (HW n i));rw[JF n m i]
theorem Od(n:Nat):∀(k i j:Nat),j∈XU n k i->∃m<k,Ce n m i=j
 |0,_,_,h=>by cases h
 |k+1,i,j,h=>by
  rcases List.mem_cons.mp h with e|h
  ·exact⟨0,by lia,e.symm⟩
  ·obtain⟨m,hm,e⟩:=Od n k (HW n i) j h;exact⟨m+1,by lia,by rw[JF];exact e⟩
theorem MC{n:Nat}(h:(List.range n).all (fun j=>(XU n n 0).contains j)=true)(hn:Ce n n 0=0):Cyc n:=by
 refine XS (fun j hj=>?_) hn;rw[List.all_eq_true]at h
 have:=h j (List.mem_range.mpr hj)
 exact Od n n 0 j (by simpa using this)
theorem aa:Cyc 32:=MC (by decide +kernel) (by decide +kernel)
theorem Wy:Cyc 128:=MC (by decide +kernel) (by decide +kernel)
theorem Sd(h:Int):SetTable.bits h<2 ^ 64:=by unfold SetTable.bits;have h1:=Int.emod_nonneg h (show(2 ^ 64:Int)≠0 by decide);have h2:=Int.emod_lt_of_pos h (show(0:Int)<2 ^ 64 by decide);lia
def Ah(mask:Nat)(h:Int)(m:Nat):SetTable.Probe:=itr mask m (IB mask (SetTable.bits h%(mask+1)) (SetTable.bits h))
theorem Pn(mask i perturb:Nat)(hi:i<mask+1):∀k,(Bg mask k (i,perturb)).1<mask+1
 |0=>hi
 |k+1=>Nat.mod_lt _ (Nat.succ_pos _)
theorem Uw{mask:Nat}(hc:Cyc (mask+1))(h:Int){j:Nat}(hj:j<mask+1):∃m<10*SetTable.turns mask,(Ah mask h m).j=j:=by have hi:SetTable.bits h%(mask+1)<mask+1:=Nat.mod_lt _ (Nat.succ_pos _);obtain⟨a,ha,ea⟩:=hc _ (Pn mask _ (SetTable.bits h) hi 13) j hj;obtain⟨m,hm,e⟩:=Jr mask (SetTable.bits h%(mask+1)) (SetTable.bits h) (13+a);refine⟨m,by unfold SetTable.turns;lia,?_⟩;unfold Ah;rw[e];show(Bg mask (13+a) _).1=j;rw[G8 mask _ _ (Sd h)];exact ea
theorem X6{mask:Nat}(h:Int)(m:Nat):(Ah mask h m).j<=mask:=by
 have key:∀m,∃r,r+(itr mask m (IB mask (SetTable.bits h%(mask+1)) (SetTable.bits h))).j=(itr mask m (IB mask (SetTable.bits h%(mask+1)) (SetTable.bits h))).j+r/\(itr mask m (IB mask (SetTable.bits h%(mask+1)) (SetTable.bits h))).j+(itr mask m (IB mask (SetTable.bits h%(mask+1)) (SetTable.bits h))).more<=mask:=by
  intro m;refine⟨0,by lia,?_⟩;have run:∀i,i<mask+1->i+(SetTable.runEnd mask i-i)<=mask:=fun i hi=>by unfold SetTable.runEnd;split<;>lia
  induction m with
  |zero=>exact run _ (Nat.mod_lt _ (Nat.succ_pos _))
  |succ m ih=>
   rw[LC];generalize itr mask m (IB mask (SetTable.bits h%(mask+1)) (SetTable.bits h))=p at ih;unfold LW;split
   ·simp only;lia
   ·exact run _ (Nat.mod_lt _ (Nat.succ_pos _))
 obtain⟨_,_,e⟩:=key m;unfold Ah;lia
theorem U0{P:Nat->Prop}(h:∃m,P m):∃m,P m/\∀m'<m,¬P m':=by
 obtain⟨m,hm⟩:=h
 induction m using Nat.strongRecOn with
 |ind m ih=>
  by_cases c:∃m'<m,P m'
  ·obtain⟨m',h1,h2⟩:=c;exact ih m' h1 h2
  ·exact⟨m,hm,fun m' h1 h2=>c ⟨m',h1,h2⟩⟩
theorem Ke(xs:Array Nat)(j:Nat)(up:xs.toList.Pairwise (·<·)):∀(fuel lo hi:Nat),lo<=hi->hi<=xs.size->hi-lo<=fuel->(∀i<lo,∀x,xs[i]?=some x->x<j)->(∀i,hi<=i->∀x,xs[i]?=some x->j<=x) →
  SetTable.below.go xs j fuel lo hi<=xs.size/\(∀i<SetTable.below.go xs j fuel lo hi,∀x,xs[i]?=some x->x<j)/\(∀i,SetTable.below.go xs j fuel lo hi<=i->∀x,xs[i]?=some x->j<=x)
 |0,lo,hi,h1,h2,h3,h4,h5=>by
  have e:lo=hi:=by lia
  subst e;exact⟨h2,h4,h5⟩
 |fuel+1,lo,hi,h1,h2,h3,h4,h5=>by
  have mono:∀a b x y,a<b->xs[a]?=some x->xs[b]?=some y->x<y:=fun a b x y IG ha hb=>by
   obtain⟨Ua,Z4⟩:=Array.getElem?_eq_some_iff.mp ha;obtain⟨LI,Yy⟩:=Array.getElem?_eq_some_iff.mp hb
   have:=List.pairwise_iff_getElem.mp up a b (by simpa using Ua) (by simpa using LI) IG
   simp only[Array.getElem_toList]at this;rw[<-Z4,<-Yy];exact this
  unfold SetTable.below.go;by_cases c:lo<hi
  ·rw[if_pos c];have hm:(lo+hi) / 2<xs.size:=by lia
   have hg:xs[(lo+hi) / 2]?=some xs[(lo+hi) / 2]:=Array.getElem?_eq_getElem hm;have hd:xs.getD ((lo+hi) / 2) j=xs[(lo+hi) / 2]:=by rw[Array.getD_eq_getD_getElem?,hg];rfl
   simp only[hd];by_cases c2:xs[(lo+hi) / 2]<j
   ·rw[if_pos c2];refine Ke xs j up fuel _ _ (by lia) h2 (by lia) (fun i Xk x hx=>?_) h5;rcases Nat.lt_or_eq_of_le (Nat.lt_succ_iff.mp Xk)with h|h
    ·exact Nat.lt_trans (mono _ _ _ _ h hx hg) c2
    ·subst h;rw[hg]at hx;cases hx;exact c2
   ·rw[if_neg c2];refine Ke xs j up fuel _ _ (by lia) (by lia) (by lia) h4 (fun i Xk x hx=>?_);rcases Nat.lt_or_eq_of_le Xk with h|h
    ·have:=mono _ _ _ _ h hg hx;lia
    ·subst h;rw[hg]at hx;cases hx;lia
  ·rw[if_neg c];have e:lo=hi:=by lia
   subst e;exact⟨h2,h4,h5⟩
theorem Fd(xs:Array Nat)(j:Nat)(up:xs.toList.Pairwise (·<·)):SetTable.below xs j<=xs.size/\(∀i<SetTable.below xs j,∀x,xs[i]?=some x->x<j)/\(∀i,SetTable.below xs j<=i->∀x,xs[i]?=some x->j<=x):=Ke xs j up xs.size 0 xs.size (Nat.zero_le _) (Nat.le_refl _) (by lia) (fun i h=>by lia) (fun i h x hx=>by
  have:=(Array.getElem?_eq_some_iff.mp hx).1;lia)
theorem MK{t:SetTable}(up:t.place.toList.Pairwise (·<·)){j:Nat}(h:j∈t.place.toList):∃i,t.slot j=.live i/\t.place[i]?=some j:=by
 obtain⟨h1,h2,h3⟩:=Fd t.place j up;obtain⟨k,hk,e⟩:=List.getElem_of_mem h;have DP:k<t.place.size:=by simpa using hk
 have eg:t.place[k]?=some j:=by rw[Array.getElem?_eq_getElem DP];simpa using e
 have hb:SetTable.below t.place j<=k:=by
  by_cases c:k<SetTable.below t.place j
  ·have:=h2 k c j eg;lia
  ·lia
 have hs:SetTable.below t.place j<t.place.size:=by lia
 have eb:t.place[SetTable.below t.place j]?=some t.place[SetTable.below t.place j]:=Array.getElem?_eq_getElem hs;have:t.place[SetTable.below t.place j]=j:=by
  have l1:=h3 _ (Nat.le_refl _) _ eb;rcases Nat.lt_or_eq_of_le hb with c|c
  ·have:=List.pairwise_iff_getElem.mp up _ k (by simpa using hs) hk c
   simp only[Array.getElem_toList]at this;have e':t.place[k]=j:=by simpa using e
   lia
  ·simp only[c];simpa using e
 rw[this]at eb;refine⟨_,?_,eb⟩;unfold SetTable.slot;simp only[eb,beq_self_eq_true,if_true]
theorem QX{t:SetTable}(hd:t.dummies=#[]){j:Nat}(h:j∉t.place.toList):t.slot j=.empty:=by
 unfold SetTable.slot;have e:(t.place[SetTable.below t.place j]?==some j)=false:=by
  cases c:t.place[SetTable.below t.place j]? with
  |none=>rfl
  |some x=>
   obtain⟨h1,h2⟩:=Array.getElem?_eq_some_iff.mp c;have:x∈t.place.toList:=by rw[<-h2];simp
   simp only[beq_eq_false_iff_ne,ne_eq,Option.some.injEq];rintro rfl;exact h this
 have e2:SetTable.has t.dummies j=false:=by rw[hd];rfl
 simp only[e,e2,Bool.false_eq_true,if_false]
theorem HK{t:SetTable}(up:t.place.toList.Pairwise (·<·))(hd:t.dummies=#[])(j:Nat):t.slot j=.empty/\j∉t.place.toList\/∃i,t.slot j=.live i/\t.place[i]?=some j:=by
 by_cases h:j∈t.place.toList
 ·exact .inr (MK up h)
 ·exact .inl ⟨QX hd h,h⟩
theorem Pj{t:SetTable}{hashAt:Nat->Int}{h:Int}:∀(m fuel:Nat)(p:SetTable.Probe),m<fuel->(∀m'<m,∃i,t.slot (itr t.mask m' p).j=.live i/\(hashAt i==h)=false) →
  (t.slot (itr t.mask m p).j=.empty->SetTable.probe.go t hashAt h fuel p=some (.empty (itr t.mask m p).j p.dummy)) ∧
  ∀i,t.slot (itr t.mask m p).j=.live i->(hashAt i==h)=true->SetTable.probe.go t hashAt h fuel p=some (.candidate (itr t.mask m p).j i (t.advance (itr t.mask m p)))
 |0,fuel+1,p,_,_=>by
  refine⟨fun e=>?_,fun i e e'=>?_⟩
  ·show SetTable.probe.go t hashAt h (fuel+1) p=_;unfold SetTable.probe.go;rw[show t.slot p.j=.empty from e];rfl
  ·show SetTable.probe.go t hashAt h (fuel+1) p=_;unfold SetTable.probe.go;rw[show t.slot p.j=.live i from e];simp only[e',if_true];rfl
 |m+1,fuel+1,p,hm,hb=>by
  obtain⟨i,e1,e2⟩:=hb 0 (by lia);have rK:t.slot p.j=.live i:=e1
  have:=Pj m fuel (LW t.mask p) (by lia) fun m' JK=>hb (m'+1) (by lia)
  have eg:SetTable.probe.go t hashAt h (fuel+1) p=SetTable.probe.go t hashAt h fuel (LW t.mask p):=by
   rw[SetTable.probe.go];rw[rK];simp only[e2,Bool.false_eq_true,if_false];rfl
  rw[eg];obtain⟨h1,h2⟩:=this;rw[Tt]at h1;exact⟨h1,h2⟩
structure TabOk (mask:Nat) (PL:List (Nat×Int)):Prop where
 up:(PL.map (·.1)).Pairwise (·<·)
 le:∀q∈PL,q.1<=mask
 on:∀q∈PL,∃m<10*SetTable.turns mask,(Ah mask q.2 m).j=q.1/\∀m'<m,(Ah mask q.2 m').j∈PL.map (·.1)
theorem MF{mask:Nat}{L:List Nat}(hl:L.length<=mask):∃j<mask+1,j∉L:=by
 refine Classical.byContradiction fun c=>?_;have Dj:∀j∈List.range (mask+1),j∈L:=fun j hj=>Classical.byContradiction fun z=>c ⟨j,List.mem_range.mp hj,z⟩;have nd:(List.range (mask+1)).Nodup:=List.nodup_range;have:(List.range (mask+1)).length<=L.length:=by
  have key:∀(l m:List Nat),l.Nodup->(∀x∈l,x∈m)->l.length<=m.length:=by
   intro l
   induction l with
   |nil=>intro m _ _;exact Nat.zero_le _
   |cons a l ih=>
    intro m nd hm;obtain⟨n1,n2⟩:=List.nodup_cons.mp nd;have ha:=hm a (List.mem_cons_self ..)
    have:=ih (m.erase a) n2 fun x hx=>(List.mem_erase_of_ne (fun(e:x=a)=>n1 (e▸hx))).mpr (hm x (List.mem_cons_of_mem _ hx))
    rw[List.length_erase_of_mem ha]at this;have h0:0<m.length:=List.length_pos_of_mem ha;simp only[List.length_cons];lia
  exact key _ _ nd Dj
 rw[List.length_range]at this;lia
theorem cF{t:SetTable}{hashAt:Nat->Int}{PL:List (Nat×Int)}(T:TabOk t.mask PL)(hc:Cyc (t.mask+1))(hp:t.place.toList=PL.map (·.1))(hd:t.dummies=#[])(hl:PL.length<=t.mask)(hh:∀i,∀q,PL[i]?=some q->hashAt i=q.2)(h:Int) :
  (∃i j next,PL[i]?=some (j,h)/\t.probe hashAt h (t.probeStart h)=some (.candidate j i next)) ∨
  ((∀q∈PL,q.2≠h)/\∃m<10*SetTable.turns t.mask,(Ah t.mask h m).j∉PL.map (·.1)/\(∀m'<m,(Ah t.mask h m').j∈PL.map (·.1))/\t.probe hashAt h (t.probeStart h)=some (.empty (Ah t.mask h m).j none)):=by
 have up:t.place.toList.Pairwise (·<·):=by rw[hp];exact T.up
 have lv:∀(j i:Nat),t.place[i]?=some j->∃q:Nat×Int,PL[i]?=some q/\q.1=j:=fun j i e=>by
  have:t.place.toList[i]?=some j:=by rw[Array.getElem?_toList];exact e
  rw[hp,List.getElem?_map]at this;obtain⟨q,h1,h2⟩:=Option.map_eq_some_iff.mp this;exact⟨q,h1,h2⟩
 obtain⟨j0,lK,kq⟩:=MF (mask:=t.mask) (L:=PL.map (·.1)) (by rw[List.length_map];exact hl);obtain⟨m0,qy,e0⟩:=Uw hc h lK;obtain⟨m,⟨VL,Xf⟩,eW⟩:=U0 (P:=fun m=>m<10*SetTable.turns t.mask/\((Ah t.mask h m).j∉PL.map (·.1)\/∃i,t.slot (Ah t.mask h m).j=.live i/\(hashAt i==h)=true)) ⟨m0,qy,.inl (by rw[e0];exact kq)⟩;have hb:∀m'<m,∃i,t.slot (Ah t.mask h m').j=.live i/\(hashAt i==h)=false:=fun m' JK=>by
  have hn:=eW m' JK;rcases HK up hd (Ah t.mask h m').j with⟨_,c⟩|⟨i,c,_⟩
  ·exact absurd ⟨by lia,.inl (by rw[<-hp];exact c)⟩ hn
  ·refine⟨i,c,?_⟩;cases q:hashAt i==h with
   |false=>rfl
   |true=>exact absurd ⟨by lia,.inr ⟨i,c,q⟩⟩ hn
 have P2:∀m'<m,(Ah t.mask h m').j∈PL.map (·.1):=fun m' JK=>by
  refine Classical.byContradiction fun c=>eW m' JK ⟨by lia,.inl c⟩
 obtain⟨g1,g2⟩:=Pj (t:=t) (hashAt:=hashAt) (h:=h) m (10*SetTable.turns t.mask) (IB t.mask (SetTable.bits h%(t.mask+1)) (SetTable.bits h)) VL hb;rcases HK up hd (Ah t.mask h m).j with⟨e,c⟩|⟨i,e,c⟩
 ·right;rw[hp]at c;refine⟨fun q hq e'=>?_,m,VL,c,P2,g1 e⟩;obtain⟨mq,_,h2,h3⟩:=T.on q hq;rw[e']at h2 h3;have gH:(Ah t.mask h mq).j∈PL.map (·.1):=by rw[h2];exact List.mem_map_of_mem hq
  rcases Nat.lt_trichotomy mq m with z|z|z
  ·obtain⟨i,z1,z2⟩:=hb mq z;obtain⟨i',z3,z4⟩:=MK up (j:=(Ah t.mask h mq).j) (by rw[hp];exact gH);rw[z1]at z3;cases z3;obtain⟨q',z5,z6⟩:=lv _ _ z4;have:q'=q:=by
    obtain⟨k,hk,ek⟩:=List.getElem_of_mem hq;obtain⟨Xk,jS⟩:=List.getElem?_eq_some_iff.mp z5;have gn:k=i:=by
     rcases Nat.lt_trichotomy k i with y|y|y
     ·have:=List.pairwise_iff_getElem.mp T.up k i (by simpa using hk) (by simpa using Xk) y
      simp only[List.getElem_map,ek,jS,z6,h2]at this;lia
     ·exact y
     ·have:=List.pairwise_iff_getElem.mp T.up i k (by simpa using Xk) (by simpa using hk) y
      simp only[List.getElem_map,ek,jS,z6,h2]at this;lia
    subst gn;rw[<-jS,<-ek]
   have:=hh i q' z5
   rw[‹q'=q›,e']at this;rw[this,beq_self_eq_true]at z2;cases z2
  ·subst z;exact c gH
  ·exact c (h3 m z)
 ·left;obtain⟨q,z5,z6⟩:=lv _ _ c;have hi:(hashAt i==h)=true:=by
   rcases Xf with z|⟨i',z1,z2⟩
   ·exact absurd (by rw[<-z6];exact List.mem_map_of_mem (List.mem_of_getElem? z5)) z
   ·rw[e]at z1;cases z1;exact z2
  refine⟨i,_,_,?_,g2 i e hi⟩
  have:=hh i q z5
  rw[z5];have e':q.2=h:=by rw[<-this];exact eq_of_beq hi
  obtain⟨a,b⟩:=q;simp only at z6 e';rw[z6,e'];rfl
theorem Oo{α:Type}(l:List α)(p:Nat)(x:α):(l.take p++x::l.drop p).Perm (x::l):=by
 have:=List.perm_middle (a:=x) (l₁:=l.take p) (l₂:=l.drop p)
 rw[List.take_append_drop]at this;exact this
theorem dE{xs:Array Nat}{j:Nat}(up:xs.toList.Pairwise (·<·))(hj:j∉xs.toList):(xs.toList.take (SetTable.below xs j)++j::xs.toList.drop (SetTable.below xs j)).Pairwise (·<·):=by
 obtain⟨h1,h2,h3⟩:=Fd xs j up;rw[List.pairwise_append];have lt:∀a∈xs.toList.take (SetTable.below xs j),a<j:=fun a ha=>by
  obtain⟨i,hi,e⟩:=List.mem_take_iff_getElem.mp ha;refine h2 i (by lia) a ?_;rw[<-Array.getElem?_toList,List.getElem?_eq_getElem (by lia),e]
 have ge:∀b∈xs.toList.drop (SetTable.below xs j),j<b:=fun b hb=>by
  obtain⟨i,hi,e⟩:=List.mem_drop_iff_getElem.mp hb
  have:=h3 (SetTable.below xs j+i) (by lia) b (by rw[<-Array.getElem?_toList,List.getElem?_eq_getElem (by lia),e])
  have Bq:b≠j:=fun z=>hj (z▸List.mem_of_mem_drop hb);lia
 refine⟨up.sublist (List.take_sublist _ _),List.pairwise_cons.mpr ⟨ge,up.sublist (List.drop_sublist _ _)⟩,fun a ha b hb=>?_⟩;rcases List.mem_cons.mp hb with e|hb
 ·rw[e];exact lt a ha
 ·exact Nat.lt_trans (lt a ha) (ge b hb)
theorem TabOk.ins{mask:Nat}{PL:List (Nat×Int)}(T:TabOk mask PL){h:Int}{m:Nat}(hm:m<10*SetTable.turns mask)(hn:(Ah mask h m).j∉PL.map (·.1))(hb:∀m'<m,(Ah mask h m').j∈PL.map (·.1)){xs:Array Nat}(hp:xs.toList=PL.map (·.1)) :
  TabOk mask (PL.take (SetTable.below xs (Ah mask h m).j)++((Ah mask h m).j,h)::PL.drop (SetTable.below xs (Ah mask h m).j)):=by
 have pm:=Oo PL (SetTable.below xs (Ah mask h m).j) ((Ah mask h m).j,h);have mem:∀j,j∈(PL.take (SetTable.below xs (Ah mask h m).j)++((Ah mask h m).j,h)::PL.drop (SetTable.below xs (Ah mask h m).j)).map (·.1)↔j=(Ah mask h m).j\/j∈PL.map (·.1):=fun j=>by
  rw[(pm.map (·.1)).mem_iff];simp
 refine⟨?_,fun q hq=>?_,fun q hq=>?_⟩
 ·have:=dE (xs:=xs) (j:=(Ah mask h m).j) (by rw[hp];exact T.up) (by rw[hp];exact hn)
  rw[hp]at this;simpa using this
 ·rcases List.mem_cons.mp (pm.mem_iff.mp hq)with e|hq
  ·rw[e];exact X6 h m
  ·exact T.le q hq
 ·rcases List.mem_cons.mp (pm.mem_iff.mp hq)with e|hq
  ·rw[e];exact⟨m,hm,rfl,fun m' JK=>(mem _).mpr (.inr (hb m' JK))⟩
  ·obtain⟨mq,h1,h2,h3⟩:=T.on q hq;exact⟨mq,h1,h2,fun m' JK=>(mem _).mpr (.inr (h3 m' JK))⟩
theorem JD(mask:Nat)(p:Nat×Nat):∀k,Bg mask (k+1) p=Bg mask k (SetTable.leap mask p.1 p.2)
 |0=>rfl
 |k+1=>by
  show SetTable.leap mask (Bg mask (k+1) p).1 (Bg mask (k+1) p).2=SetTable.leap mask (Bg mask k _).1 (Bg mask k _).2;rw[JD mask p k]
theorem Rx{mask:Nat}{owner:Array (Option Nat)}(hsz:owner.size=mask+1):∀(fuel i perturb:Nat),i<mask+1->(∃k<fuel,owner[(Bg mask k (i,perturb)).1]?=some none) →
  ∃j m,SetTable.layClean.free mask owner fuel i perturb=some j/\m<10*fuel/\(itr mask m (IB mask i perturb)).j=j/\owner[j]?=some none/\∀m'<m,∃k,owner[(itr mask m' (IB mask i perturb)).j]?=some (some k)
 |0,_,_,_,⟨k,hk,_⟩=>absurd hk (Nat.not_lt_zero _)
 |fuel+1,i,perturb,hi,⟨k,hk,e⟩=>by
  have ke:∀r,r<=SetTable.runEnd mask i-i->i+r<mask+1:=fun r hr=>by
   unfold SetTable.runEnd at hr;split at hr<;>lia
  have hle:i<=SetTable.runEnd mask i:=by unfold SetTable.runEnd;split<;>lia
  have sT:=RN mask i;have getD:∀r,r<=SetTable.runEnd mask i-i->owner[i+r]?=some (owner.getD (i+r) (some 0)):=fun r hr=>by
   have:=ke r hr
   rw[Array.getElem?_eq_getElem (by lia),Array.getD_eq_getD_getElem?,Array.getElem?_eq_getElem (by lia)];rfl
  unfold SetTable.layClean.free;cases hf:(List.range (SetTable.runEnd mask i+1-i)).find? fun k=>(owner.getD (i+k) (some 0)).isNone with
  |some r=>
   have h1:=List.mem_of_find?_eq_some hf;have h2:=List.find?_some hf;rw[List.mem_range]at h1;have hr:r<=SetTable.runEnd mask i-i:=by lia
   refine⟨i+r,r,rfl,by lia,by rw[J0 mask i perturb r hr],?_,fun m' JK=>?_⟩
   ·rw[getD r hr,Option.isNone_iff_eq_none.mp h2]
   ·rw[J0 mask i perturb m' (by lia)];show ∃k,owner[i+m']?=some (some k);rw[getD m' (by lia)];have hb:¬(owner.getD (i+m') (some 0)).isNone=true:=by
     obtain⟨_,as,bs,hs,Dj⟩:=List.find?_eq_some_iff_append.mp hf;have AY:as.length=r:=by
      have:=congrArg (fun l=>l[as.length]?) hs
      simp only[List.getElem?_append_right (Nat.le_refl _),Nat.sub_self,List.getElem?_cons_zero]at this;obtain⟨z1,z2⟩:=List.getElem?_eq_some_iff.mp this;rw[List.getElem_range]at z2;exact z2
     have hm:m'∈as:=by
      have:(List.range (SetTable.runEnd mask i+1-i))[m']?=some m':=by rw[List.getElem?_range (by lia)]
      rw[hs,List.getElem?_append_left (by lia)]at this;exact List.mem_of_getElem? this
     have:=Dj m' hm
     exact fun z=>by rw[z]at this;cases this
    cases q:owner.getD (i+m') (some 0)with
    |none=>rw[q]at hb;exact absurd rfl hb
    |some k=>exact⟨k,rfl⟩
  |none=>
   have Dj:∀r,r<=SetTable.runEnd mask i-i->∃k,owner[i+r]?=some (some k):=fun r hr=>by
    have:=List.find?_eq_none.mp hf r (by rw[List.mem_range];lia)
    rw[getD r hr];cases q:owner.getD (i+r) (some 0)with
    |none=>rw[q]at this;exact absurd rfl this
    |some k=>exact⟨k,rfl⟩
   cases k with
   |zero=>
    obtain⟨k',e'⟩:=Dj 0 (Nat.zero_le _);have e0:owner[i]?=some none:=e;rw[Nat.add_zero,e0]at e';cases e'
   |succ k=>
    rw[JD]at e;obtain⟨j,m,h1,h2,h3,h4,h5⟩:=Rx hsz fuel (SetTable.leap mask i perturb).1 (SetTable.leap mask i perturb).2 (Nat.mod_lt _ (Nat.succ_pos _)) ⟨k,by lia,e⟩;refine⟨j,SetTable.runEnd mask i-i+1+m,h1,by lia,?_,h4,fun m' JK=>?_⟩
    ·rw[Hw,Jj];exact h3
    ·by_cases c:m'≤SetTable.runEnd mask i-i
     ·rw[J0 mask i perturb m' c];exact Dj m' c
     ·have:m'=SetTable.runEnd mask i-i+1+(m'-(SetTable.runEnd mask i-i+1)):=by lia
      rw[this,Hw,Jj];exact h5 _ (by lia)
structure Owns (mask:Nat) (hs:List Int) (js:List Nat) (owner:Array (Option Nat)):Prop where
 size:owner.size=mask+1
 len:js.length=hs.length
 nd:js.Nodup
 le:∀j∈js,j<=mask
 own:∀j k:Nat,owner[j]?=some (some k)↔js[k]?=some j
 none:∀j:Nat,j<=mask->j∉js->owner[j]?=some none
 on:∀(k:Nat)(j:Nat)(h:Int),js[k]?=some j->hs[k]?=some h->∃m<10*SetTable.turns mask,(Ah mask h m).j=j/\∀m'<m,(Ah mask h m').j∈js
def Jc(mask:Nat)(Ae:Option (Array (Option Nat)×Nat))(h:Int):Option (Array (Option Nat)×Nat):=do
  let (owner,k) <-Ae
  let j <-SetTable.layClean.free mask owner (SetTable.turns mask) (SetTable.bits h%(mask+1)) (SetTable.bits h)
  pure (owner.setIfInBounds j (some k),k+1)
theorem PR(mask:Nat)(hashes:Array Int):SetTable.layClean mask hashes=(hashes.toList.foldl (Jc mask) (some (Array.replicate (mask+1) none,0))).map (·.1):=by unfold SetTable.layClean;rw[<-Array.foldl_toList];rfl
theorem UE{mask:Nat}(hc:Cyc (mask+1)){hs:List Int}{js:List Nat}{owner:Array (Option Nat)}(O:Owns mask hs js owner)(hl:js.length<=mask)(h:Int):∃j,Jc mask (some (owner,hs.length)) h=some (owner.setIfInBounds j (some hs.length),hs.length+1)/\Owns mask (hs++[h]) (js++[j]) (owner.setIfInBounds j (some hs.length)):=by
 have hi:SetTable.bits h%(mask+1)<mask+1:=Nat.mod_lt _ (Nat.succ_pos _);obtain⟨j0,lK,kq⟩:=MF hl;obtain⟨a,ha,ea⟩:=hc _ (Pn mask _ (SetTable.bits h) hi 13) j0 lK;obtain⟨j,m,h1,h2,h3,h4,h5⟩:=Rx O.size (SetTable.turns mask) (SetTable.bits h%(mask+1)) (SetTable.bits h) hi ⟨13+a,by unfold SetTable.turns;lia,by
  rw[G8 mask _ _ (Sd h),ea];exact O.none j0 (by lia) kq⟩
 have mP:j<owner.size:=(Array.getElem?_eq_some_iff.mp h4).1;have ng:j∉js:=fun hj=>by
  obtain⟨k,hk,e⟩:=List.getElem_of_mem hj
  have:=(O.own j k).mpr (by rw[List.getElem?_eq_getElem hk,e])
  rw[h4]at this;cases this
 have ou:j<=mask:=by rw[O.size]at mP;lia
 refine⟨j,?_,?_,?_,?_,?_,?_,?_,?_⟩
 ·unfold Jc;simp only[Option.bind_eq_bind,Option.bind_some,h1];rfl
 ·rw[Array.size_setIfInBounds,O.size]
 ·simp[O.len]
 ·rw[List.nodup_append];refine⟨O.nd,by simp,fun x hx y hy=>?_⟩;rw[List.mem_singleton.mp hy];rintro rfl;exact ng hx
 ·intro x hx;rcases List.mem_append.mp hx with hx|hx
  ·exact O.le x hx
  ·rw[List.mem_singleton.mp hx];exact ou
 ·intro x k;by_cases hx:x=j
  ·subst hx;rw[Array.getElem?_setIfInBounds_self_of_lt mP];constructor
   ·intro e;cases e;rw[<-O.len,List.getElem?_append_right (Nat.le_refl _),Nat.sub_self];rfl
   ·intro e;by_cases hk:k<js.length
    ·rw[List.getElem?_append_left hk]at e;exact absurd (List.mem_of_getElem? e) ng
    ·have DP:k<(js++[x]).length:=(List.getElem?_eq_some_iff.mp e).1;have:k=hs.length:=by simp at DP;have:=O.len;lia
     rw[this]
  ·rw[Array.getElem?_setIfInBounds_ne (Ne.symm hx),O.own];constructor
   ·intro e;rw[List.getElem?_append_left (List.getElem?_eq_some_iff.mp e).1];exact e
   ·intro e;by_cases hk:k<js.length
    ·rw[List.getElem?_append_left hk]at e;exact e
    ·rw[List.getElem?_append_right (by lia)]at e
     have:=List.mem_of_getElem? e
     rw[List.mem_singleton]at this;exact absurd this hx
 ·intro x hx hn;rw[List.mem_append,List.mem_singleton,not_or]at hn;rw[Array.getElem?_setIfInBounds_ne (fun e=>hn.2 e.symm)];exact O.none x hx hn.1
 ·intro k x h' e1 e2;by_cases hk:k<js.length
  ·rw[List.getElem?_append_left hk]at e1;rw[List.getElem?_append_left (by rw[<-O.len];exact hk)]at e2;obtain⟨mq,z1,z2,z3⟩:=O.on k x h' e1 e2;exact⟨mq,z1,z2,fun m' JK=>List.mem_append_left _ (z3 m' JK)⟩
  ·rw[List.getElem?_append_right (by lia)]at e1;rw[List.getElem?_append_right (by rw[<-O.len];lia),<-O.len]at e2;have UO:k-js.length=0:=by
    have:=(List.getElem?_eq_some_iff.mp e1).1
    simp at this;lia
   rw[UO]at e1 e2;cases e1;cases e2;refine⟨m,h2,h3,fun m' JK=>List.mem_append_left _ ?_⟩;obtain⟨k',DP⟩:=h5 m' JK;exact List.mem_of_getElem? ((O.own _ _).mp DP)
theorem Ol{mask:Nat}(hc:Cyc (mask+1)):∀(rest hs:List Int)(js:List Nat)(owner:Array (Option Nat)),Owns mask hs js owner->(hs++rest).length<=mask+1 →
  ∃aN Mp,rest.foldl (Jc mask) (some (owner,hs.length))=some (Mp,(hs++rest).length)/\Owns mask (hs++rest) aN Mp
 |[],hs,js,owner,O,_=>⟨js,owner,by simp,by simpa using O⟩
 |h::rest,hs,js,owner,O,hl=>by
  have Yg:js.length<=mask:=by rw[O.len];simp at hl;lia
  obtain⟨j,e,O'⟩:=UE hc O Yg h;obtain⟨aN,Mp,e',rA⟩:=Ol hc rest (hs++[h]) _ _ O' (by simpa using hl);refine⟨aN,Mp,?_,by simpa using rA⟩;rw[List.foldl_cons,e];simpa using e'
theorem YG{mask:Nat}(hc:Cyc (mask+1))(finger moves:Nat)(led plain:Bool){hashes:Array Int}(hl:hashes.size<=mask+1) :
  ∃live:List (Nat×Nat),SetTable.laid mask finger moves led plain hashes=some ({ mask,place:=(live.map (·.1)).toArray,dummies:=#[],finger,led,moves,plain },(live.map (·.2)).toArray) ∧
   (live.map (·.2)).Perm (List.range hashes.size)/\∀g:Nat->Int,(∀k h,hashes[k]?=some h->g k=h)->TabOk mask (live.map fun p=>(p.1,g p.2)):=by
 have O0:Owns mask [] [] (Array.replicate (mask+1) none):=by
  refine⟨by simp,rfl,List.nodup_nil,by simp,fun j k=>?_,fun j hj _=>?_,fun k j h e=>by simp at e⟩
  ·constructor
   ·intro e;obtain⟨h1,h2⟩:=Array.getElem?_eq_some_iff.mp e;simp at h2
   ·intro e;simp at e
  ·rw[Array.getElem?_eq_getElem (by simp;lia)];simp
 obtain⟨js,owner,e,O⟩:=Ol hc hashes.toList [] [] _ O0 (by simpa using hl);have e1:SetTable.layClean mask hashes=some owner:=by rw[PR,show(some (Array.replicate (mask+1) none,0):Option (Array (Option Nat)×Nat))=some (Array.replicate (mask+1) none,([]:List Int).length)from rfl,e];rfl
 rw[List.nil_append]at O;refine⟨(List.range (mask+1)).filterMap fun j=>(owner.getD j none).map (j,·),?_,?_,fun g hg=>?_⟩
 ·unfold SetTable.laid;rw[e1];rfl
 all_goals
  have mem:∀j k,(j,k)∈((List.range (mask+1)).filterMap fun j=>(owner.getD j none).map (j,·))↔js[k]?=some j:=fun j k=>by
   rw[List.mem_filterMap];constructor
   ·rintro⟨a,ha,e⟩;obtain⟨k',e1,e2⟩:=Option.map_eq_some_iff.mp e;cases e2;rw[<-O.own];rw[List.mem_range]at ha;rw[Array.getD_eq_getD_getElem?]at e1;rw[Array.getElem?_eq_getElem (by rw[O.size];exact ha)]at e1 ⊢;simpa using e1
   ·intro e;have hj:=O.le j (List.mem_of_getElem? e);refine⟨j,List.mem_range.mpr (by lia),?_⟩;rw[Array.getD_eq_getD_getElem?,(O.own j k).mpr e];rfl
  have up:(((List.range (mask+1)).filterMap fun j=>(owner.getD j none).map (j,·)).map (·.1)).Pairwise (·<·):=by
   have:∀l:List Nat,l.Pairwise (·<·)->((l.filterMap fun j=>(owner.getD j none).map (j,·)).map (·.1)).Sublist l:=by
    intro l _
    induction l with
    |nil=>simp
    |cons a l ih=>
     rename_i h;rw[List.filterMap_cons];split
     ·exact(ih (List.pairwise_cons.mp h).2).cons _
     ·rename_i q hq;obtain⟨_,_,e2⟩:=Option.map_eq_some_iff.mp hq;rw[<-e2];exact(ih (List.pairwise_cons.mp h).2).cons₂ _
   exact List.pairwise_lt_range.sublist (this _ List.pairwise_lt_range)
 ·rw[List.perm_ext_iff_of_nodup _ List.nodup_range]
  ·intro k;rw[List.mem_map,List.mem_range];constructor
   ·rintro⟨⟨j,k'⟩,h1,rfl⟩
    have:=(List.getElem?_eq_some_iff.mp ((mem j k').mp h1)).1
    rw[O.len]at this;simpa using this
   ·intro hk;have DP:k<js.length:=by rw[O.len];simpa using hk
    exact⟨(js[k],k),(mem _ _).mpr (List.getElem?_eq_getElem DP),rfl⟩
  ·have h1:=List.pairwise_map.mp up;unfold List.Nodup;rw[List.pairwise_map];refine h1.imp_of_mem fun {a b} ha hb Ar e=>?_;obtain⟨j1,k1⟩:=a;obtain⟨j2,k2⟩:=b;simp only at e Ar;subst e;have z1:=(mem j1 k1).mp ha;rw[(mem j2 k1).mp hb]at z1;cases z1;lia
 ·refine⟨by rw[List.map_map];exact up,fun q hq=>?_,fun q hq=>?_⟩
  ·obtain⟨⟨j,k⟩,h1,rfl⟩:=List.mem_map.mp hq;exact O.le j (List.mem_of_getElem? ((mem j k).mp h1))
  ·obtain⟨⟨j,k⟩,h1,rfl⟩:=List.mem_map.mp hq;have hj:=(mem j k).mp h1;have hk:k<hashes.toList.length:=by rw[<-O.len];exact(List.getElem?_eq_some_iff.mp hj).1
   obtain⟨m,z1,z2,z3⟩:=O.on k j hashes.toList[k] hj (List.getElem?_eq_getElem hk);have qk:g k=hashes.toList[k]:=hg k _ (by rw[<-Array.getElem?_toList,List.getElem?_eq_getElem hk]);simp only[qk];refine⟨m,z1,z2,fun m' JK=>?_⟩;obtain⟨k',DP,e'⟩:=List.getElem_of_mem (z3 m' JK);rw[List.map_map,List.mem_map];exact⟨((Ah mask hashes.toList[k] m').j,k'),(mem _ _).mpr (by rw[List.getElem?_eq_getElem DP,e']),rfl⟩
structure EK (prog:Program) (w:World) (K:Type) [DecidableEq K] where
 is:Heap->K->Value->Prop
 hash:K->Int
 room:Around->Prop
 noscan:∀{h k u},is h k u->u.scannable=false
 eqBool:∀{A:Around}{E:Value->Shared->Prop}{s:Shared}{x y:K}{u v:Value}{Q:Bool->Shared->Prop},room A->is s.heap x u->is s.heap y v->Q (decide (x=y)) s->wpAny (model prog w) A (PySem.eqBool u v) Q E s
 byValue:∀{A:Around}{E:Value->Shared->Prop}{s:Shared}{x:K}{u:Value}{Q:Bool->Shared->Prop},is s.heap x u->Q true s->wpAny (model prog w) A (hashByValue 8 u) Q E s
 unseen:∀{A:Around}{E:Value->Shared->Prop}{s:Shared}{x:K}{u:Value}{vs:List Value}{Q:Bool->Shared->Prop},is s.heap x u->(∀v∈vs,∃y,is s.heap y v)->Q false s->wpAny (model prog w) A (searchCouldBeSeen u vs) Q E s
 pyHash:∀{A:Around}{E:Value->Shared->Prop}{s:Shared}{x:K}{u:Value}{Q:Int->Shared->Prop},room A->is s.heap x u->(∀tk,Q (hash x) { s with toks:=tk })->wpAny (model prog w) A (PySem.pyHash u) Q E s
 keeps:∀{h h':Heap}{k:K}{u:Value},is h k u->(∀b o,h.get? b=some o->(∀es ep t,o.data≠.set es ep t)->(∀vs,o.data≠.fields vs)->h'.get? b=some o)->is h' k u
section
variable {prog:Program}{w:World}{K:Type} [DecidableEq K] (knd:EK prog w K)
def Cap(mask n:Nat):Prop:=(mask=7/\n<=4)\/(mask=31/\n<=18)\/(mask=127/\n<=76)
structure ElP (h:Heap) (k:K) (e:Int×Value):Prop where
 hash:e.1=knd.hash k
 is:knd.is h k e.2
structure TabD (h:Heap) (es:Array (Int×Value)) (t:SetTable) (ks:List K):Prop where
 ex:∃js:List Nat,TabOk t.mask (js.zip (es.toList.map (·.1)))/\t.place.toList=js/\js.length=es.size
 nod:t.dummies=#[]
 els:∃GH:List K,GH.Perm ks/\GH.length=es.size/\∀(i:Nat) k e,GH[i]?=some k->es[i]?=some e->ElP knd h k e
 nd:ks.Nodup
def SetAt(h:Heap)(a:Addr)(ks:List K):Prop:=∃o es ep t,h.get? a=some o/\o.ExactSet/\o.data=.set es ep t/\TabD knd h es t ks/\Cap t.mask es.size/\t.plain=true/\t.led=!w.params.followText "set-order"
variable {knd}
theorem TabD.size{h:Heap}{es:Array (Int×Value)}{t:SetTable}{ks:List K}(T:TabD knd h es t ks):es.size=ks.length:=by obtain⟨GH,p,e,_⟩:=T.els;rw[<-e,p.length_eq]
theorem TabD.fits{h:Heap}{es:Array (Int×Value)}{t:SetTable}{ks:List K}(T:TabD knd h es t ks)(hm:es.size<=t.mask):t.fits es.size=true:=by
 obtain⟨js,T1,e1,e2⟩:=T.ex;have:t.place.size=es.size:=by rw[<-Array.length_toList,e1,e2]
 unfold SetTable.fits SetTable.fill;rw[T.nod,this];simp[hm]
theorem EW{α β:Type}:∀{l:List α}{m:List β},l.length=m.length->(l.zip m).map (·.1)=l
 |[],_,_=>by simp
 |a::l,[],h=>by simp at h
 |a::l,b::m,h=>by
  simp only[List.zip_cons_cons,List.map_cons,List.cons.injEq,true_and];exact EW (by simpa using h)
theorem SK{α β:Type}{l:List α}{m:List β}{i:Nat}{p:α×β}(h:(l.zip m)[i]?=some p):l[i]?=some p.1/\m[i]?=some p.2:=by rw[List.getElem?_zip_eq_some]at h;exact h
variable {A:Around}{E:Value->Shared->Prop}{s:Shared}
theorem So{a:Addr}{o:Obj}{es:Array (Int×Value)}{ep:Nat}{t:SetTable}{ks:List K}{k:K}{u:Value}{Q:SetFound->Shared->Prop}(ho:s.heap.get? a=some o)(hd:o.data=.set es ep t)(T:TabD knd s.heap es t ks)(hc:Cyc (t.mask+1))(Zf:t.mask%2=1)(hm:es.size<=t.mask)(hr:knd.room A)(hk:knd.is s.heap k u)(inj:∀k'∈ks,knd.hash k'=knd.hash k->k'=k)(h1:k∈ks->Q (.there none) s)(h2:k∉ks->∀m,m<10*SetTable.turns t.mask->(Ah t.mask (knd.hash k) m).j∉t.place.toList->(∀m'<m,(Ah t.mask (knd.hash k) m').j∈t.place.toList)->Q (.free (Ah t.mask (knd.hash k) m).j false) s) :
  wpAny (model prog w) A (setSearch a u (knd.hash k) true) Q E s:=by
 have hf:=T.fits hm;obtain⟨js,T1,e1,e2⟩:=T.ex;obtain⟨GH,pm,hl,OI⟩:=T.els;have AY:js.length=(es.toList.map (·.1)).length:=by rw[e2,List.length_map,Array.length_toList]
 have fF:=EW AY;have nF:∀i e,es[i]?=some e->∃k',GH[i]?=some k'/\k'∈ks/\ElP knd s.heap k' e:=fun i e he=>by
  have hi:i<GH.length:=by rw[hl];exact(Array.getElem?_eq_some_iff.mp he).1
  exact⟨GH[i],List.getElem?_eq_getElem hi,pm.mem_iff.mp (List.getElem_mem hi),OI i _ e (List.getElem?_eq_getElem hi) he⟩
 unfold setSearch;rw[setSearchFrom];refine wpAny_bind (wpAny_setState_of ho hd hf ?_);dsimp only;have hg:t.gaveWay=false:=by unfold SetTable.gaveWay;rw[Zf];rfl
 rw[hg];simp only[Bool.false_eq_true,if_false,Option.getD_none];generalize hH:(fun(i:Nat)=>(es[i]?.map (·.1)).getD 0)=hashAt;have Z2:∀i,hashAt i=(es[i]?.map (·.1)).getD 0:=fun i=>by rw[<-hH]
 have res:=cF (t:=t) (hashAt:=hashAt) T1 hc (by rw[fF];exact e1) T.nod (by rw[List.length_zip,<-AY,Nat.min_self,e2];exact hm) (fun i q hq=>by
  obtain⟨_,z2⟩:=SK hq;rw[List.getElem?_map,Array.getElem?_toList]at z2;rw[Z2,z2];rfl) (knd.hash k)
 have ZD:∀f:Nat->Int,(∀i,f i=hashAt i)->t.probe f (knd.hash k) (t.probeStart (knd.hash k))=t.probe hashAt (knd.hash k) (t.probeStart (knd.hash k)):=fun f qD=>by rw[funext qD]
 rw[ZD _ (fun i=>by rw[Z2];rfl)];rcases res with⟨i,j,next,hi,e⟩|⟨T5,m,VL,Xf,jW,e⟩
 ·rw[e];dsimp only;obtain⟨z1,z2⟩:=SK hi;rw[List.getElem?_map,Array.getElem?_toList]at z2;obtain⟨ent,he,lO⟩:=Option.map_eq_some_iff.mp z2;obtain⟨k',NI,Dr,hE⟩:=nF i ent he;have dH:k'=k:=inj k' Dr (by rw[<-hE.hash];exact lO);subst dH;cases HC:t.led
  ·simp only[Bool.not_false,if_true];refine wpAny_bind (knd.unseen hk (fun v hv=>?_) ?_)
   ·obtain⟨e',ko,rfl⟩:=List.mem_map.mp hv;have:e'∈es:=by
     have:=(Array.mem_filter.mp (Array.mem_toList_iff.mp ko)).1
     exact this
    obtain⟨i',iH,jA⟩:=Array.getElem_of_mem this;obtain⟨k2,_,_,pW⟩:=nF i' e' (by rw[Array.getElem?_eq_getElem iH,jA]);exact⟨k2,pW.is⟩
   simp only[Bool.false_eq_true,if_false];rw[he];dsimp only;refine wpAny_bind (wpAny_holding (knd.eqBool hr hE.is hk ?_));rw[decide_eq_true rfl];refine wpAny_bind (wpAny_setState_of ho hd hf ?_);dsimp only;simp only[Bool.and_self,if_true];exact wpAny_pure (h1 Dr)
  ·simp only[Bool.not_true,Bool.false_eq_true,if_false];rw[he];dsimp only;refine wpAny_bind (wpAny_holding (knd.eqBool hr hE.is hk ?_));rw[decide_eq_true rfl];refine wpAny_bind (wpAny_setState_of ho hd hf ?_);dsimp only;simp only[Bool.and_self,if_true];exact wpAny_pure (h1 Dr)
 ·rw[e];dsimp only;rw[fF]at Xf jW;refine wpAny_pure (h2 (fun P2=>?_) m VL (by rw[e1];exact Xf) (by rw[e1];exact jW));obtain⟨i,hi,ei⟩:=List.getElem_of_mem (pm.mem_iff.mpr P2);have Xk:i<es.size:=by rw[<-hl];exact hi
  have hE:=OI i k es[i] (by rw[List.getElem?_eq_getElem hi,ei]) (Array.getElem?_eq_getElem Xk);have hJ:i<js.length:=by rw[e2];exact Xk
  refine T5 (js[i],es[i].1) ?_ hE.hash;have:(js.zip (es.toList.map (·.1)))[i]?=some (js[i],es[i].1):=by
   rw[List.getElem?_zip_eq_some];refine⟨List.getElem?_eq_getElem hJ,?_⟩;rw[List.getElem?_map,Array.getElem?_toList,Array.getElem?_eq_getElem Xk];rfl
  exact List.mem_of_getElem? this
end
theorem JY{α:Type}{l:List α}{p:Nat}(hp:p<=l.length)(x:α)(i:Nat):(l.take p++x::l.drop p)[i]?=if i<p then l[i]? else if i=p then some x else l[i-1]?:=by
 by_cases h1:i<p
 ·rw[if_pos h1,List.getElem?_append_left (by rw[List.length_take];lia),List.getElem?_take_of_lt h1]
 ·rw[if_neg h1,List.getElem?_append_right (by rw[List.length_take];lia),List.length_take,Nat.min_eq_left hp];by_cases h2:i=p
  ·rw[if_pos h2,h2,Nat.sub_self];rfl
  ·rw[if_neg h2,show i-p=(i-p-1)+1 by lia,List.getElem?_cons_succ,List.getElem?_drop];congr 1;lia
theorem Ye{α β:Type}{l:List α}{m:List β}(h:l.length=m.length){p:Nat}(hp:p<=l.length)(x:α)(y:β):(l.take p++x::l.drop p).zip (m.take p++y::m.drop p)=(l.zip m).take p++(x,y)::(l.zip m).drop p:=by
 rw[List.zip_append (by rw[List.length_take,List.length_take,h]),List.zip_cons_cons];have tz:∀(n:Nat)(l:List α)(m:List β),(l.take n).zip (m.take n)=(l.zip m).take n/\(l.drop n).zip (m.drop n)=(l.zip m).drop n:=by
  intro n
  induction n with
  |zero=>intro l m;simp
  |succ n ih=>
   intro l m;cases l with
   |nil=>simp
   |cons a l=>
    cases m with
    |nil=>simp
    |cons b m=>simp[ih l m]
 rw[(tz p l m).1,(tz p l m).2]
theorem Yk{α β:Type}(f:α->β)(l:List α)(p:Nat)(x:α):(l.take p++x::l.drop p).map f=(l.map f).take p++f x::(l.map f).drop p:=by rw[List.map_append,List.map_cons,List.map_take,List.map_drop]
section
variable {prog:Program}{w:World}{K:Type} [DecidableEq K] {knd:EK prog w K}{A:Around}{E:Value->Shared->Prop}{s:Shared}
theorem TabD.keeps{h h':Heap}{es:Array (Int×Value)}{t:SetTable}{ks:List K}{a:Addr}{o:Obj}{GU TR t'}(T:TabD knd h es t ks)(ho:h.get? a=some o)(hd:o.data=.set GU TR t')(hs:Heap.SameBut a h h'):TabD knd h' es t ks:=by obtain⟨GH,pm,hl,OI⟩:=T.els;exact⟨T.ex,T.nod,⟨GH,pm,hl,fun i k e h1 h2=>⟨(OI i k e h1 h2).hash,knd.keeps (OI i k e h1 h2).is fun b o' hb UY _=>hs.extBut b o' (fun z=>by subst z;rw[ho]at hb;cases hb;exact UY _ _ _ hd) hb⟩⟩,T.nd⟩
theorem TabD.kept{h h':Heap}{es:Array (Int×Value)}{t:SetTable}{ks:List K}(T:TabD knd h es t ks)(hk:∀b o,h.get? b=some o->(∀es ep t,o.data≠.set es ep t)->(∀vs,o.data≠.fields vs)->h'.get? b=some o):TabD knd h' es t ks:=by obtain⟨GH,pm,hl,OI⟩:=T.els;exact⟨T.ex,T.nod,⟨GH,pm,hl,fun i k e h1 h2=>⟨(OI i k e h1 h2).hash,knd.keeps (OI i k e h1 h2).is hk⟩⟩,T.nd⟩
theorem TabD.ins{h:Heap}{es:Array (Int×Value)}{t:SetTable}{ks:List K}{k:K}{u:Value}(T:TabD knd h es t ks)(hk:knd.is h k u)(hn:k∉ks){m:Nat}(hm:m<10*SetTable.turns t.mask)(hj:(Ah t.mask (knd.hash k) m).j∉t.place.toList)(hb:∀m'<m,(Ah t.mask (knd.hash k) m').j∈t.place.toList) :
  TabD knd h (SetTable.insertAt es (SetTable.below t.place (Ah t.mask (knd.hash k) m).j) (knd.hash k,u)) (t.put (Ah t.mask (knd.hash k) m).j).1 (k::ks):=by
 obtain⟨js,T1,e1,e2⟩:=T.ex;obtain⟨GH,pm,hl,OI⟩:=T.els;have AY:js.length=(es.toList.map (·.1)).length:=by rw[e2,List.length_map,Array.length_toList]
 have up:t.place.toList.Pairwise (·<·):=by have:=T1.up;rw[EW AY]at this;rw[e1];exact this
 have hp:=(Fd t.place (Ah t.mask (knd.hash k) m).j up).1;have gY:t.place.size=es.size:=by rw[<-Array.length_toList,e1,e2]
 have j6:(t.put (Ah t.mask (knd.hash k) m).j).1.dummies=#[]:=by
  unfold SetTable.put;have:SetTable.has t.dummies (Ah t.mask (knd.hash k) m).j=false:=by rw[T.nod];rfl
  simp only[this,Bool.false_eq_true,if_false];exact T.nod
 generalize hpp:SetTable.below t.place (Ah t.mask (knd.hash k) m).j=p at hp;have hsz:(SetTable.insertAt es p (knd.hash k,u)).size=es.size+1:=by
  rw[<-Array.length_toList,SetTable.toList_insertAt,List.length_append,List.length_cons,List.length_take,List.length_drop,Array.length_toList];lia
 refine⟨⟨js.take p++(Ah t.mask (knd.hash k) m).j::js.drop p,?_,?_,?_⟩,j6,⟨GH.take p++k::GH.drop p,?_,?_,fun i k' e h1 h2=>?_⟩,List.nodup_cons.mpr ⟨hn,T.nd⟩⟩
 ·rw[SetTable.toList_insertAt,Yk,Ye AY (by rw[e2];lia)]
  have:=T1.ins (h:=knd.hash k) hm (by rw[EW AY,<-e1];exact hj) (by rw[EW AY,<-e1];exact hb) (xs:=t.place) (by rw[EW AY];exact e1)
  rw[hpp]at this;exact this
 ·show(SetTable.insertAt t.place (SetTable.below t.place _) _).toList=_;rw[SetTable.toList_insertAt,hpp,e1]
 ·rw[hsz,List.length_append,List.length_cons,List.length_take,List.length_drop,e2];lia
 ·exact(Oo GH p k).trans (pm.cons k)
 ·rw[hsz,List.length_append,List.length_cons,List.length_take,List.length_drop,hl];lia
 ·rw[JY (by rw[hl];lia)]at h1;rw[<-Array.getElem?_toList,SetTable.toList_insertAt,JY (by rw[Array.length_toList];lia)]at h2;by_cases c1:i<p
  ·rw[if_pos c1]at h1 h2;exact OI i k' e h1 (by rw[<-Array.getElem?_toList];exact h2)
  ·rw[if_neg c1]at h1 h2;by_cases c2:i=p
   ·rw[if_pos c2]at h1 h2;cases h1;cases h2;exact⟨rfl,hk⟩
   ·rw[if_neg c2]at h1 h2;exact OI (i-1) k' e h1 (by rw[<-Array.getElem?_toList];exact h2)
theorem TabD.relay{h:Heap}{es:Array (Int×Value)}{t:SetTable}{ks:List K}(T:TabD knd h es t ks){wanted:Nat}{live:List (Nat×Nat)}{t':SetTable}(e:t'={ mask:=SetTable.sizeAbove wanted-1,place:=(live.map (·.1)).toArray,dummies:=#[],finger:=t.finger,led:=t.led,moves:=t.movedTo (SetTable.sizeAbove wanted-1),plain:=t.plain })(hp:(live.map (·.2)).Perm (List.range es.size))(hg:∀g:Nat->Int,(∀k h,(es.map (·.1))[k]?=some h->g k=h)->TabOk (SetTable.sizeAbove wanted-1) (live.map fun p=>(p.1,g p.2))) :
  ((live.map (·.2)).toArray.filterMap (es[·]?)).size=es.size/\TabD knd h ((live.map (·.2)).toArray.filterMap (es[·]?)) t' ks:=by
 obtain⟨GH,pm,hl,OI⟩:=T.els;have Ar:∀q∈live,q.2<es.size:=fun q hq=>List.mem_range.mp (hp.mem_iff.mp (List.mem_map_of_mem hq));have fm:∀{β:Type}(l:List β)(n:Nat),n=l.length->(∀q∈live,q.2<n)->∀d:β,(live.map (·.2)).filterMap (l[·]?)=live.map fun q=>l.getD q.2 d:=by
  intro β l n hn av d;clear Ar hp hg e
  induction live with
  |nil=>rfl
  |cons q r ih=>
   have hq:q.2<l.length:=by rw[<-hn];exact av q (List.mem_cons_self ..)
   rw[List.map_cons,List.filterMap_cons_some (List.getElem?_eq_getElem hq),List.map_cons,ih (fun q hq=>av q (List.mem_cons_of_mem _ hq)),List.getD_eq_getElem?_getD,List.getElem?_eq_getElem hq];rfl
 have hle:live.length=es.size:=by have:=hp.length_eq;rw[List.length_map,List.length_range]at this;exact this
 have ck:((live.map (·.2)).toArray.filterMap (es[·]?)).toList=live.map fun q=>es.toList.getD q.2 (0,.none):=by
  rw[Array.toList_filterMap];have:(fun(x:Nat)=>es[x]?)=fun x=>es.toList[x]?:=funext fun x=>by rw[Array.getElem?_toList]
  rw[this];exact fm es.toList es.size (by rw[Array.length_toList]) Ar _
 have hsz:((live.map (·.2)).toArray.filterMap (es[·]?)).size=es.size:=by rw[<-Array.length_toList,ck,List.length_map,hle]
 refine⟨hsz,⟨live.map (·.1),?_,by rw[e],by rw[List.length_map,hle,hsz]⟩,by rw[e],?_,T.nd⟩
 ·have:=hg (fun k=>(es.toList.getD k (0,.none)).1) (fun k h' hk=>by
   rw[Array.getElem?_map]at hk;obtain⟨x,h1,h2⟩:=Option.map_eq_some_iff.mp hk;rw[List.getD_eq_getElem?_getD,Array.getElem?_toList,h1];exact h2)
  rw[ck,e];have ez:(live.map (·.1)).zip ((live.map fun q=>es.toList.getD q.2 (0,.none)).map (·.1))=live.map fun p=>(p.1,(es.toList.getD p.2 (0,.none)).1):=by
   rw[List.map_map];clear hp hg e Ar hle ck hsz this fm
   induction live with
   |nil=>rfl
   |cons q r ih=>simp only[List.map_cons,List.zip_cons_cons,ih,Function.comp]
  rw[ez];exact this
 ·cases UO:GH with
  |nil=>
   have:es.size=0:=by rw[<-hl,UO];rfl
   refine⟨[],by rw[<-UO];exact pm,by rw[hsz,this];rfl,fun i k e' h1=>by simp at h1⟩
  |cons kd kr=>
   have pR:(live.map (·.2)).filterMap (GH[·]?)=live.map fun q=>GH.getD q.2 kd:=fm GH es.size hl.symm Ar kd;refine⟨live.map fun q=>GH.getD q.2 kd,?_,by rw[List.length_map,hle,hsz],fun i k e' h1 h2=>?_⟩
   ·refine List.Perm.trans ?_ pm;rw[<-pR];refine(hp.filterMap _).trans ?_;rw[<-hl,List.filterMap_getElem?_range_length]
   ·rw[List.getElem?_map]at h1;rw[<-Array.getElem?_toList,ck,List.getElem?_map]at h2;obtain⟨q,hq,rfl⟩:=Option.map_eq_some_iff.mp h1;rw[hq]at h2;cases h2;have Ts:=Ar q (List.mem_of_getElem? hq);refine OI q.2 _ _ ?_ ?_
    ·rw[List.getElem?_eq_getElem (by rw[hl];exact Ts),List.getD_eq_getElem?_getD,List.getElem?_eq_getElem (by rw[hl];exact Ts)];rfl
    ·show es[q.2]?=some (es.toList.getD q.2 (0,.none));rw[List.getD_eq_getElem?_getD,Array.getElem?_toList,Array.getElem?_eq_getElem Ts];rfl
theorem Ml{mask n:Nat}(h:Cap mask n):Cyc (mask+1)/\mask%2=1/\n+1<=mask:=by
 rcases h with⟨rfl,h⟩|⟨rfl,h⟩|⟨rfl,h⟩
 ·exact⟨je,rfl,by lia⟩
 ·exact⟨aa,rfl,by lia⟩
 ·exact⟨Wy,rfl,by lia⟩
theorem Vb{h:Heap}{a:Addr}{o:Obj}{es:Array (Int×Value)}{ep:Nat}{t:SetTable}(ho:h.get? a=some o)(hd:o.data=.set es ep t)(GU:Array (Int×Value))(t':SetTable) :
  (h.update a (Obj.putSet GU t')).get? a=some { o with data:=.set GU (ep+1) t' }:=by
 have:=Heap.get?_update_self (Obj.putSet GU t') ho (by rw[putSet_of GU t' hd];rfl)
 rw[putSet_of GU t' hd]at this;exact this
theorem cg{a:Addr}{ks:List K}{k:K}{u:Value}{Q:Bool->Shared->Prop}(S:SetAt knd s.heap a ks)(hr:knd.room A)(hk:knd.is s.heap k u)(inj:∀k'∈ks,knd.hash k'=knd.hash k->k'=k)(qz:ks.length<76)(h:∀h' b,Heap.SameBut a s.heap h'->SetAt knd h' a (if k∈ks then ks else k::ks)->Q b { s with heap:=h' }) :
  wpAny (model prog w) A (setAddHashed a u (knd.hash k)) Q E s:=by
 obtain⟨o,es,ep,t,ho,hex,hd,T,hc,gf,Zl⟩:=S;obtain⟨fw,Zf,OQ⟩:=Ml hc;have hsz:=T.size;have hf:=T.fits (by lia);unfold setAddHashed setAddHashedIn;refine wpAny_holding (wpAny_bind (wpAny_setState_of ho hd hf ?_));dsimp only;have pN:byScan u es=false:=by unfold byScan;rw[knd.noscan hk];rfl
 rw[pN];simp only[Bool.false_eq_true,if_false];refine wpAny_bind (So ho hd T fw Zf (by lia) hr hk inj (fun P2=>?_) fun hn m hm hj hb=>?_)
 ·refine wpAny_pure ?_;have e:s={ s with heap:=s.heap }:=by cases s;rfl
  rw[e];refine h s.heap _ (Heap.SameBut.refl a s.heap) ?_;rw[if_pos P2];exact⟨o,es,ep,t,ho,hex,hd,T,hc,gf,Zl⟩
 dsimp only;refine wpAny_bind (wpAny_setState_of ho hd hf ?_);dsimp only;have T2:=T.ins hk hn hm hj hb;have fU:=T2.size;have key:∀(t1:SetTable)(p1:Nat),t.put (Ah t.mask (knd.hash k) m).j=(t1,p1)->wpAny (model prog w) A (storeSet a (SetTable.insertAt es p1 (knd.hash k,u)) t1 >>= fun _=>if (!false&&t1.tooFull)=true then setRelay a (SetTable.grown (es.size+1)) >>= fun _=>pure true else pure true) Q E s:=by
  intro t1 p1 mB;have et:t1=(t.put (Ah t.mask (knd.hash k) m).j).1:=by rw[mB]
  have nO:p1=SetTable.below t.place (Ah t.mask (knd.hash k) m).j:=by
   have:(t.put (Ah t.mask (knd.hash k) m).j).2=p1:=by rw[mB]
   rw[<-this];rfl
  rw[<-et,<-nO]at T2;rw[<-nO]at fU;have SJ:t1.mask=t.mask:=by rw[et];rfl
  have ft:t1.plain=true:=by rw[et];exact gf
  have aI:t1.led=!w.params.followText "set-order":=by rw[et];exact Zl
  have QN:(SetTable.insertAt es p1 (knd.hash k,u)).size=es.size+1:=by rw[fU,List.length_cons,hsz]
  have hle:es.size+1<=77:=by lia
  have Bo:∀n,n<=77->n<=sizeLine:=fun n hn=>Nat.le_trans hn (by rw[sizeLine_eq];decide);refine wpAny_bind (wpAny_storeSet_of ho hd ?_ (Bo _ (by rw[QN];exact hle)));have Ls:=Vb ho hd (SetTable.insertAt es p1 (knd.hash k,u)) t1;have c9:=Heap.SameBut.update s.heap a (Obj.putSet (SetTable.insertAt es p1 (knd.hash k,u)) t1);have T3:=T2.keeps ho hd c9;have aU:t1.fill=es.size+1:=by
   obtain⟨js,_,e1,e2⟩:=T2.ex;unfold SetTable.fill;rw[T2.nod,<-Array.length_toList,e1,e2,QN];rfl
  by_cases hfull:t1.tooFull=true
  ·rw[hfull];simp only[Bool.not_false,Bool.and_self,if_true];unfold SetTable.tooFull at hfull;rw[aU,SJ,decide_eq_true_eq]at hfull;have fb:(t.mask=7/\es.size=4)\/(t.mask=31/\es.size=18):=by
    rcases hc with⟨e1,e2⟩|⟨e1,e2⟩|⟨e1,e2⟩<;>rw[e1]at hfull<;>lia
   obtain⟨nm,lB,aG,gm,Tx⟩:∃nm,SetTable.sizeAbove (SetTable.grown (es.size+1))-1=nm/\Cap nm (es.size+1)/\Cyc (nm+1)/\SetTable.sizeAbove (SetTable.grown (es.size+1))<=128:=by
    rcases fb with⟨_,e⟩|⟨_,e⟩
    ·rw[e];exact⟨31,by decide,.inr (.inl ⟨rfl,by lia⟩),aa,by decide⟩
    ·rw[e];exact⟨127,by decide,.inr (.inr ⟨rfl,by lia⟩),Wy,by decide⟩
   refine wpAny_bind ?_;unfold setRelay;refine wpAny_bind (wpAny_setState_of Ls rfl (T3.fits (by rw[QN,SJ];lia)) ?_);dsimp only;rw[if_neg (Nat.not_lt.mpr (Nat.le_trans Tx (by rw[sizeLine_eq];decide)))];obtain⟨live,fP,Zr,hg⟩:=YG (mask:=SetTable.sizeAbove (SetTable.grown (es.size+1))-1) (by rw[lB];exact gm) t1.finger (t1.movedTo (SetTable.sizeAbove (SetTable.grown (es.size+1))-1)) t1.led t1.plain (hashes:=(SetTable.insertAt es p1 (knd.hash k,u)).map (·.1)) (by
    rw[Array.size_map,QN,lB]
    have:=(Ml aG).2.2
    lia)
   have iS:t1.relaid ((SetTable.insertAt es p1 (knd.hash k,u)).map (·.1)) (SetTable.grown (es.size+1))=_:=fP;rw[iS];rw[Array.size_map]at Zr;obtain⟨Mk,T4⟩:=T3.relay (wanted:=SetTable.grown (es.size+1)) rfl Zr hg;refine wpAny_bind ?_;refine wpAny_of_eq (a:=((live.map (·.2)).toArray.filterMap ((SetTable.insertAt es p1 (knd.hash k,u))[·]?),_)) (by
    show(if (_ != _)=true then _ else _)=_;rw[if_neg (by rw[Mk];simp)]) ?_
   dsimp only;refine wpAny_storeSet_of Ls rfl ?_ (Bo _ (by rw[Mk,QN];exact hle));have Ub:=Vb Ls rfl ((live.map (·.2)).toArray.filterMap ((SetTable.insertAt es p1 (knd.hash k,u))[·]?)) { mask:=SetTable.sizeAbove (SetTable.grown (es.size+1))-1,place:=(live.map (·.1)).toArray,dummies:=#[],finger:=t1.finger,led:=t1.led,moves:=t1.movedTo (SetTable.sizeAbove (SetTable.grown (es.size+1))-1),plain:=t1.plain };have du:=Heap.SameBut.update (s.heap.update a (Obj.putSet (SetTable.insertAt es p1 (knd.hash k,u)) t1)) a (Obj.putSet ((live.map (·.2)).toArray.filterMap ((SetTable.insertAt es p1 (knd.hash k,u))[·]?)) { mask:=SetTable.sizeAbove (SetTable.grown (es.size+1))-1,place:=(live.map (·.1)).toArray,dummies:=#[],finger:=t1.finger,led:=t1.led,moves:=t1.movedTo (SetTable.sizeAbove (SetTable.grown (es.size+1))-1),plain:=t1.plain });refine wpAny_pure (h _ _ (c9.trans du) ?_);rw[if_neg hn];refine⟨_,_,_,_,Ub,hex,rfl,T4.keeps Ls rfl du,?_,ft,aI⟩;rw[Mk,QN];show Cap (SetTable.sizeAbove (SetTable.grown (es.size+1))-1) _;rw[lB];exact aG
  ·rw[Bool.eq_false_iff.mpr hfull];simp only[Bool.not_false,Bool.and_false,Bool.false_eq_true,if_false];refine wpAny_pure (h _ _ c9 ?_);rw[if_neg hn];refine⟨_,_,_,_,Ls,hex,rfl,T3,?_,ft,aI⟩;rw[QN,SJ];have XA:¬(t1.fill*5≥t1.mask*3):=fun z=>hfull (by unfold SetTable.tooFull;exact decide_eq_true z);rw[aU,SJ]at XA;rcases hc with⟨e1,e2⟩|⟨e1,e2⟩|⟨e1,e2⟩<;>rw[e1]at XA ⊢
   ·exact .inl ⟨rfl,by lia⟩
   ·exact .inr (.inl ⟨rfl,by lia⟩)
   ·exact .inr (.inr ⟨rfl,by lia⟩)
 generalize hput:t.put (Ah t.mask (knd.hash k) m).j=pr;obtain⟨t1,p1⟩:=pr;dsimp only;cases hpl:t1.plain
 ·simp only[Bool.false_eq_true,if_false];refine wpAny_bind (wpAny_pure ?_);simp only[if_true];exact key t1 p1 hput
 ·simp only[if_true];refine wpAny_bind (knd.byValue hk ?_);simp only[if_true];exact key t1 p1 hput
end
end TF
namespace TF
open PySem PyProof.Rows
section
variable {K:Type} [DecidableEq K]
def Cu(Ae:List K):List K->List K
 |[]=>Ae
 |k::r=>Cu (if k∈Ae then Ae else k::Ae) r
theorem Ph:∀(l Ae m:List K),Cu Ae (l++m)=Cu (Cu Ae l) m
 |[],_,_=>rfl
 |k::l,Ae,m=>by rw[List.cons_append,Cu,Cu];exact Ph l _ m
theorem J9:∀(l Ae:List K)(x:K),x∈Cu Ae l↔x∈Ae\/x∈l
 |[],Ae,x=>by simp[Cu]
 |k::l,Ae,x=>by
  rw[Cu,J9 l];by_cases h:k∈Ae
  ·rw[if_pos h,List.mem_cons];constructor
   ·rintro(h1|h1)
    ·exact .inl h1
    ·exact .inr (.inr h1)
   ·rintro(h1|rfl|h1)
    ·exact .inl h1
    ·exact .inl h
    ·exact .inr h1
  ·rw[if_neg h,List.mem_cons,List.mem_cons];constructor
   ·rintro((h1|h1)|h1)
    ·exact .inr (.inl h1)
    ·exact .inl h1
    ·exact .inr (.inr h1)
   ·rintro(h1|h1|h1)
    ·exact .inl (.inr h1)
    ·exact .inl (.inl h1)
    ·exact .inr h1
theorem Jf:∀(l Ae:List K),Ae.Nodup->(Cu Ae l).Nodup
 |[],_,h=>h
 |k::l,Ae,h=>by
  rw[Cu];by_cases c:k∈Ae
  ·rw[if_pos c];exact Jf l Ae h
  ·rw[if_neg c];exact Jf l _ (List.nodup_cons.mpr ⟨c,h⟩)
theorem US{l m:List K}(nd:l.Nodup)(hm:∀x∈l,x∈m):l.length<=m.length:=by
 induction l generalizing m with
 |nil=>exact Nat.zero_le _
 |cons a l ih=>
  obtain⟨n1,n2⟩:=List.nodup_cons.mp nd;have ha:=hm a (List.mem_cons_self ..)
  have:=ih (m:=m.erase a) n2 fun x hx=>(List.mem_erase_of_ne (fun(e:x=a)=>n1 (e▸hx))).mpr (hm x (List.mem_cons_of_mem _ hx))
  rw[List.length_erase_of_mem ha]at this;have h0:0<m.length:=List.length_pos_of_mem ha;simp only[List.length_cons];lia
end
section
variable {prog:Program}{w:World}{K:Type} [DecidableEq K] {knd:EK prog w K}{A:Around}
theorem SetAt.kept{h h':Heap}{S:Addr}{ks:List K}(x:SetAt knd h S ks)(hS:∀o,h.get? S=some o->h'.get? S=some o)(hk:∀b o,h.get? b=some o->(∀es ep t,o.data≠.set es ep t)->(∀vs,o.data≠.fields vs)->h'.get? b=some o):SetAt knd h' S ks:=by obtain⟨o,es,ep,t,ho,hex,hd,T,hc⟩:=x;exact⟨o,es,ep,t,hS o ho,hex,hd,T.kept hk,hc⟩
theorem Sl{R:Result->Shared->Prop}{I l S:Addr}{items:Array Value}{ks U:List K}(hh:A.in1.handled=none)(iI:l≠I)(Nz:S≠I)(jP:S≠l)(hr:knd.room A.in1)(AY:ks.length=items.size)(inj:∀k∈ks,∀k'∈ks,knd.hash k'=knd.hash k->k'=k)(hU:∀k∈ks,k∈U)(mF:U.length<=75) :
  ∀(n i:Nat)(s:Shared),items.size-i=n->i<=items.size->(s.heap.IsListIter I l i/\s.heap.IsList l items)->(∀(j:Nat) k v,ks[j]?=some k->items[j]?=some v->knd.is s.heap k v)->SetAt knd s.heap S (Cu [] (ks.take i)) →
   (∀h' tk,(∀b o,b≠S->b≠I->s.heap.get? b=some o->h'.get? b=some o)->SetAt knd h' S (Cu [] ks)->R (.ok (.ret .none)) { s with heap:=h',toks:=tk }) →
   codeAny (model prog w) A (.builtin "set.update.loop" ⟨[.ref S,.ref I],[]⟩) R s:=by
 have W:=Walks.list (prog:=prog) (w:=w) hh I l iI items;intro n
 induction n with
 |zero=>
  intro i s hn hi st cQ hS hR;obtain rfl:i=items.size:=by lia
  refine codeAny_builtin F.entry_set_update_loop ?_;rw[Around.under_plainId F.plain_set_update_loop _];refine wpAny_bind (m:=pyNext (.ref I)) (W.done s _ _ st fun h' tk hm=>?_);refine wpAny_pure (hR h' tk (fun b o _ hb e=>hm b o (by simp[hb]) e) ?_);rw[<-AY,List.take_length]at hS;refine hS.kept (fun o e=>hm S o (by simp[Nz]) e) fun b o e h1 h2=>hm b o (fun z=>?_) e;obtain⟨oi,z1,z2,z3⟩:=st.1;rw[List.mem_singleton.mp z,z1]at e;cases e;exact h2 _ z3
 |succ n ih=>
  intro i s hn hi st cQ hS hR;have Ar:i<items.size:=by lia
  refine codeAny_builtin F.entry_set_update_loop ?_;rw[Around.under_plainId F.plain_set_update_loop _];refine wpAny_bind (m:=pyNext (.ref I)) (W.item i s _ _ Ar st fun v h1 qI hv BS VL=>?_);have gk:∀b o,s.heap.get? b=some o->(∀es ep t,o.data≠.set es ep t)->(∀vs,o.data≠.fields vs)->h1.get? b=some o:=fun b o e _ h2=>VL b o (fun z=>by
   obtain⟨oi,z1,z2,z3⟩:=st.1;rw[List.mem_singleton.mp z,z1]at e;cases e;exact h2 _ z3) e
  have nW:i<ks.length:=by lia
  have gn:ks[i]?=some ks[i]:=List.getElem?_eq_getElem nW;have Zv:SetAt knd h1 S (Cu [] (ks.take i)):=hS.kept (fun o e=>VL S o (by simp[Nz]) e) gk;have aA:knd.is h1 ks[i] v:=knd.keeps (cQ i _ v gn hv) gk;have fR:ks[i]∈ks:=List.getElem_mem nW;have En:∀k∈Cu [] (ks.take i),k∈ks:=fun k hk=>by
   rcases(J9 _ _ _).mp hk with z|z
   ·cases z
   ·exact List.mem_of_mem_take z
  have et:Cu [] (ks.take (i+1))=if ks[i]∈Cu [] (ks.take i)then Cu [] (ks.take i)else ks[i]::Cu [] (ks.take i):=by
   rw[List.take_add_one,gn,Ph];rfl
  refine wpAny_bind (m:=holding [v] (setAdd S v)) (wpAny_holding ?_);unfold setAdd;refine wpAny_holding (wpAny_bind (knd.pyHash (s:={ s with heap:=h1,toks:=qI }) hr aA fun oU=>?_));refine cg (s:={ s with heap:=h1,toks:=oU }) Zv hr aA (fun k' DP e=>inj _ fR _ (En k' DP) e) ?_ fun h2 bb JM nN=>?_
  ·have:=US (Jf (ks.take i) [] List.nodup_nil) (m:=U) fun x hx=>hU x (En x hx)
   lia
  ·rw[<-et]at nN;have iA:∀b o,h1.get? b=some o->b≠S->h2.get? b=some o:=fun b o e hb=>JM.extBut b o hb e;have qt:∀b o,h1.get? b=some o->(∀es ep t,o.data≠.set es ep t)->(∀vs,o.data≠.fields vs)->h2.get? b=some o:=fun b o e h3 _=>iA b o e fun z=>by
    obtain⟨o',es,ep,t,MG,_,eY,_⟩:=Zv;rw[z,MG]at e;cases e;exact h3 _ _ _ eY
   refine wpAny_pure ⟨plainId_quiet F.plain_set_update_loop _,ih (i+1) _ (by lia) Ar ?_ (fun j k u hj hu=>knd.keeps (knd.keeps (cQ j k u hj hu) gk) qt) nN fun h' tk hk JI=>?_⟩
   ·exact⟨BS.1.at fun o e=>iA I o e (Ne.symm Nz),BS.2.at fun o e=>iA l o e (Ne.symm jP)⟩
   ·exact hR h' tk (fun b o LI Yy e=>hk b o LI Yy (iA b o (VL b o (by simp[Yy]) e) LI)) JI
end
abbrev NY(led:Bool):Obj:={ cls:=.type "set",dict:=none,data:=.set #[] 0 (.fresh 0 0 led) }
section
variable {prog:Program}{w:World}{K:Type} [DecidableEq K] {knd:EK prog w K}{A:Around}{E:Value->Shared->Prop}{s:Shared}
abbrev PD(w:World):Bool:=!w.params.followText "set-order"
theorem Ti(a:Value){Q₁:Value->Shared->Prop}(h:Q₁ (.ref s.heap.objs.size) { s with heap:=s.heap.push (NY (PD w)) }) :
  codeAny (model prog w) A (.call (.builtin "set.__new__") ⟨[.type "set",a],[]⟩) (wants Q₁ E) s:=by
 refine codeAny_of_tree ?_;show wpAny _ A.in1 (checkBuiltinCall "set.__new__" _ >>= fun _=>again (.builtin "set.__new__" _)) _ _ s;refine wpAny_bind (wpAny_of_eq (F.newCall_set_1 a) (wpAny_pure ⟨plainId_quiet F.plain_set_new _,codeAny_builtin F.entry_set_new ?_⟩));rw[Around.under_plainId F.plain_set_new _];unfold Builtin.«set.__new__» Builtin.Frozenset.newClass;have sb:=sub_set_self;obtain⟨hp,g,d,tk,os⟩:=s;dsimp only;wp_walk;refine wpAny_askSetting (wpAny_pure ?_);dsimp only;simp only[newObj];exact wpAny_bind (wpAny_alloc (wpAny_pure (wpAny_pure h)))
theorem SetAt.new(h:Heap)(led:Bool)(HC:led=PD w){h':Heap}{a:Addr}(e:h'.get? a=some (NY led)):SetAt knd h' a []:=by refine⟨_,#[],0,_,e,⟨rfl,rfl,rfl⟩,rfl,⟨⟨[],⟨.nil,by simp,by simp⟩,rfl,rfl⟩,rfl,⟨[],.refl _,rfl,fun i k e h=>by simp at h⟩,.nil⟩,.inl ⟨rfl,by simp⟩,rfl,HC⟩
theorem UL{l:Addr}{items:Array Value}{ks U:List K}{Q:Value->Shared->Prop}(hh:A.handled=none)(hl:s.heap.IsList l items)(hr:knd.room A.in1.in1.in1)(AY:ks.length=items.size)(cQ:∀(j:Nat) k v,ks[j]?=some k->items[j]?=some v->knd.is s.heap k v)(inj:∀k∈ks,∀k'∈ks,knd.hash k'=knd.hash k->k'=k)(hU:∀k∈ks,k∈U)(mF:U.length<=75)(h:∀h' tk,SetAt knd h' s.heap.objs.size (Cu [] ks)->(∀b o,b<s.heap.objs.size->s.heap.get? b=some o->h'.get? b=some o)->Q (.ref s.heap.objs.size) { s with heap:=h',toks:=tk }) :
  wpAny (model prog w) A (call (.type "set") [.ref l]) Q E s:=by
 obtain⟨c0,mL,jd⟩:=F.called_set.mro;have mM:=F.called_set.made;have gZ:=F.called_set.sub;refine wpAny_call (codeAny_of_tree ?_);show wpAny _ _ (callAny (.type "set") _) _ _ _;refine wpAny_pure ⟨Code.quiet_builtin _ (by decide +kernel),codeAny_builtin F.entry_type_call ?_⟩;rw[Around.under_plain (weight_type_call_type "set" [.ref l] []) rfl];have rX:=F.called_set.notType;have rh:=F.called_set.canCreate;have rg:=F.typeCall_set_1 (.ref l);repeat (any_goals (first|assumption|wp_step))
 refine codeAny_mono (Ti (.ref l) (E:=E) (Q₁:=fun v s₁=>∃led,led=PD w/\v=.ref s.heap.objs.size/\s₁={ s with heap:=s.heap.push (NY led) }) ⟨_,rfl,rfl,rfl⟩) fun res s₁ cI=>?_;cases res with
 |error e=>exact cI
 |ok fl=>
  cases fl with
  |ret v=>
   obtain⟨led,HC,rfl,rfl⟩:=cI;have hS:(s.heap.push (NY led)).get? s.heap.objs.size=some (NY led):=Heap.get?_push_size _ rfl;have hT:Shared.TypeIs { s with heap:=s.heap.push (NY led) } (.ref s.heap.objs.size) "set":=⟨_,hS,rfl⟩;have sI:=F.called_set.init.lookup;have sG:=F.called_set.init.bind (.ref s.heap.objs.size);repeat (any_goals (first|assumption|wp_step))
   refine codeAny_mono (codeAny_call_builtin (R:=wants (fun r s₂=>r=.none/\∃h' tk,s₂={ s with heap:=h',toks:=tk }/\SetAt knd h' s.heap.objs.size (Cu [] ks)/\(∀b o,b<s.heap.objs.size->s.heap.get? b=some o->h'.get? b=some o)) E)
    F.called_set.init.plain F.entry_set_init (check_set_init_1 hT ?_)) fun j3 s₂ XJ=>?_
   ·obtain⟨ol,gv,cl,nl,dl⟩:=hl;obtain⟨c1,d1,sF,rD⟩:=ol;simp only at cl dl;subst cl;subst dl;have jg:(s.heap.push (NY led)).get? l=some { cls:=.type "list",dict:=d1,data:=.seq items nl,slots:=rD }:=Heap.get?_push_of_some _ gv;have q1:=F.sub_list_set;have q2:=F.sub_list_frozenset;have q3:(Value.type "list"==Value.type "dict")=false:=by decide
    have nD:(s.heap.push (NY led)).IsList l items:=⟨_,jg,rfl,nl,rfl⟩;have lS:l<s.heap.objs.size:=Heap.lt_size gv;have hI:(s.heap.push (NY led)).objs.size=s.heap.objs.size+1:=Heap.size_push ..;unfold Builtin.«set.__init__» noKeywords Builtin.Frozenset.updateFrom;generalize hPI:pyIter=PI;wp_walk;subst hPI;refine wpAny_pyIter_list nD (wpAny_bind (wpAny_runValue ?_));refine Sl (A:=A.in1.in1) (U:=U) (by simp[hh]) (Nat.ne_of_lt (by rw[hI];exact Nat.lt_succ_of_lt lS)) (Nat.ne_of_lt (by rw[hI];exact Nat.lt_succ_self _)) (Nat.ne_of_gt lS) hr AY inj hU mF (items.size-0) 0 _ rfl (Nat.zero_le _)
     ⟨⟨_,Heap.get?_push_size _ rfl,rfl,rfl⟩,nD.push _⟩ (fun j k u hj hu=>knd.keeps (cQ j k u hj hu) fun b o e _ _=>Heap.get?_push_of_some _ (Heap.get?_push_of_some _ e)) (SetAt.new s.heap led HC (Heap.get?_push_of_some _ hS)) ?_
    intro h' tk hk a8;refine wpAny_pure (wpAny_pure ⟨rfl,h',tk,rfl,a8,fun b o hb e=>?_⟩);exact hk b o (Nat.ne_of_lt hb) (Nat.ne_of_lt (by rw[hI];exact Nat.lt_succ_of_lt hb)) (Heap.get?_push_of_some _ (Heap.get?_push_of_some _ e))
   ·cases j3 with
    |error e=>exact XJ
    |ok pY=>
     cases pY with
     |ret r=>
      obtain⟨rfl,h',tk,rfl,a8,hk⟩:=XJ;repeat (any_goals (first|assumption|wp_step))
      exact h _ _ a8 hk
     |_=>exact XJ.elim
  |_=>exact cI.elim
end
theorem Hz:Slot "set_iterator" "__next__" "set_iterator.__next__":=.of (owner:="set_iterator") (n:="__next__")
 (by rw[typeLookup_type,builtinLookup_eq_fast];kernel_rfl)
 (by decide +kernel) (by decide +kernel) (by decide +kernel)
 (by first|exact .inl (by decide +kernel)|exact .inr (by decide +kernel))
 (by rw[isSubtype_type];kernel_rfl)
theorem OB:entryFor table "set_iterator.__next__"=some Builtin.«set_iterator.__next__»:=entryFor_of_tree (by kernel_rfl)
theorem Va:Manifest.owners.lookup (String.ofList ['r','o','t','a','r','e','t','i','_','t','e','s'].reverse)=some Manifest.sig_set_iterator:=by kernel_rfl
theorem Rr(a:Value):argsOk "set_iterator.__next__" ⟨[a],[]⟩:=by unfold argsOk;rw[signature?_of (id:="set_iterator.__next__") (n:=['_','_','t','x','e','n','_','_']) (o:=['r','o','t','a','r','e','t','i','_','t','e','s']) (by kernel_rfl) Va];kernel_rfl
theorem Js:entryFor table "set.__iter__"=some Builtin.«frozenset.__iter__»:=entryFor_alias (id':="frozenset.__iter__") (by kernel_rfl) rfl (by decide +kernel) (by kernel_rfl)
theorem Lf{α:Type}(next:Nat->Nat):∀(fuel k:Nat)(left:List α)(out:Array α),fuel=left.length->(pickOrder.go next fuel k left out).toList.Perm (out.toList++left)
 |0,k,left,out,h=>by
  have:left=[]:=List.length_eq_zero_iff.mp h.symm;subst this;unfold pickOrder.go;simp
 |fuel+1,k,left,out,h=>by
  unfold pickOrder.go;have Ar:next k%left.length<left.length:=Nat.mod_lt _ (by lia);rw[List.getElem?_eq_getElem Ar];dsimp only;refine(Lf next fuel (k+1) _ _ (by rw[List.length_eraseIdx_of_lt Ar];lia)).trans ?_;rw[Array.toList_push,List.append_assoc];refine List.Perm.append_left _ ?_;have key:∀(l:List α)(i:Nat)(hi:i<l.length),([l[i]]++l.eraseIdx i).Perm l:=by
   intro l
   induction l with
   |nil=>intro i hi;simp at hi
   |cons b l ih=>
    intro i hi;cases i with
    |zero=>exact .refl _
    |succ i=>
     have:=ih i (by simpa using hi)
     simp only[List.getElem_cons_succ,List.eraseIdx_cons_succ,List.cons_append,List.nil_append]at this ⊢;exact(List.Perm.swap _ _ _).trans (this.cons b)
  exact key _ _ Ar
def Ed{α:Type}(w:World)(a:Addr)(ep:Nat)(es:Array α):Array α:=if w.params.followText "set-order"=true then pickOrder (w.params.setOrder a ep) es else es
theorem MN{α:Type}(w:World)(a:Addr)(ep:Nat)(es:Array α):(Ed w a ep es).toList.Perm es.toList:=by
 unfold Ed;split
 ·unfold pickOrder
  have:=Lf (w.params.setOrder a ep) es.size 0 es.toList #[] (by simp)
  simpa using this
 ·exact .refl _
theorem IX{α:Type}(w:World)(a:Addr)(ep:Nat)(es:Array α):(Ed w a ep es).size=es.size:=by rw[<-Array.length_toList,(MN w a ep es).length_eq,Array.length_toList]
def QB(w:World)(t:SetTable)(slot i:Nat):Prop:=w.params.followText "set-order"=true\/SetTable.below t.place slot=i
section
variable {prog:Program}{w:World}{A:Around}{E:Value->Shared->Prop}{s:Shared}{a:Addr}{o:Obj}{es:Array (Int×Value)}{ep:Nat}{t:SetTable}
theorem Ka{slot i:Nat}{Q:Option (Value×Nat)->Shared->Prop}(ho:s.heap.get? a=some o)(hd:o.data=.set es ep t)(hf:t.fits es.size=true)(up:t.place.toList.Pairwise (·<·))(hpl:t.plain=true)(HC:t.led=PD w)(hs:QB w t slot i)(h1:∀e,(Ed w a ep es)[i]?=some e->∀Kk,QB w t Kk (i+1)->Q (some (e.2,Kk)) s)(h2:(Ed w a ep es)[i]?=none->Q none s):wpAny (model prog w) A (setNext a slot i ep) Q E s:=by
 have gY:t.place.size=es.size:=by
  unfold SetTable.fits at hf;simp only[Bool.and_eq_true,beq_iff_eq]at hf;exact hf.1
 unfold setNext;refine wpAny_bind (wpAny_setState_of ho hd hf ?_);dsimp only;refine wpAny_bind (m:=setsByText) (wpAny_bind (wpAny_askSetting (wpAny_pure ?_)));show wpAny _ _ (if w.params.followText "set-order"=true then _ else _) _ _ _;by_cases hb:w.params.followText "set-order"=true
 ·rw[if_pos hb];rw[if_neg (by simp)];unfold setWalk;refine wpAny_bind (wpAny_bind (wpAny_setState_of ho hd hf ?_));dsimp only;refine wpAny_bind (m:=setsByText) (wpAny_bind (wpAny_askSetting (wpAny_pure ?_)));show wpAny _ _ (if w.params.followText "set-order"=true then _ else _) _ _ _;rw[if_pos hb];refine wpAny_bind (wpAny_askSetting (wpAny_pure ?_));have eo:Ed w a ep es=pickOrder (w.params.setOrder a ep) es:=by unfold Ed;rw[if_pos hb]
  refine wpAny_pure ?_;show Q (((pickOrder (w.params.setOrder a ep) es)[i]?).map fun e=>(e.2,slot)) s;rw[<-eo];cases q:(Ed w a ep es)[i]? with
  |none=>exact h2 q
  |some e=>exact h1 e q slot (.inl hb)
 ·rw[if_neg hb];have eo:Ed w a ep es=es:=by unfold Ed;rw[if_neg hb]
  have ox:SetTable.below t.place slot=i:=by
   rcases hs with z|z
   ·exact absurd z hb
   ·exact z
  have cX:t.led=true:=by rw[HC];unfold PD;rw[Bool.eq_false_iff.mpr hb];rfl
  rw[if_neg (by
   show ¬(!t.plain&&decide (es.size > 1))=true;rw[hpl];simp)]
  refine wpAny_bind (wpAny_of_eq (a:=()) (by
   show(if (!t.led&&!es.isEmpty)=true then _ else _)=_;rw[cX];rfl) ?_)
  refine wpAny_pure ?_;rw[ox];rw[eo]at h1 h2;cases q:es[i]? with
  |none=>exact h2 q
  |some e=>
   have hi:i<t.place.size:=by rw[gY];exact(Array.getElem?_eq_some_iff.mp q).1
   rw[Array.getElem?_eq_getElem hi];dsimp only;refine h1 e q _ (.inr ?_);obtain⟨z1,z2,z3⟩:=Fd t.place (t.place[i]+1) up;have ei:t.place[i]?=some t.place[i]:=Array.getElem?_eq_getElem hi;have sC:i<SetTable.below t.place (t.place[i]+1):=by
    by_cases c:i<SetTable.below t.place (t.place[i]+1)
    ·exact c
    ·have:=z3 i (by lia) _ ei;lia
   by_cases c:i+1<t.place.size
   ·have e2:t.place[i+1]?=some t.place[i+1]:=Array.getElem?_eq_getElem c;have Ar:=List.pairwise_iff_getElem.mp up i (i+1) (by simpa using hi) (by simpa using c) (Nat.lt_succ_self _);simp only[Array.getElem_toList]at Ar;by_cases c2:i+1<SetTable.below t.place (t.place[i]+1)
    ·have:=z2 (i+1) c2 _ e2;lia
    ·lia
   ·lia
structure SIt (w:World) (h:Heap) (I a:Addr) (o:Obj) (es:Array (Int×Value)) (ep:Nat) (t:SetTable) (i:Nat):Prop where
 it:∃oi slot,h.get? I=some oi/\oi.cls=.type "set_iterator"/\oi.data=.fields #[.int (slot:Nat) 0,.int i 0,.ref a,.int es.size 0,.int ep 0]/\QB w t slot i
 st:h.get? a=some o
theorem Xp(hh:A.handled=none){I:Addr}(Bq:a≠I)(hd:o.data=.set es ep t)(hf:t.fits es.size=true)(up:t.place.toList.Pairwise (·<·))(hpl:t.plain=true)(HC:t.led=PD w){i:Nat}(hi:i<es.size){Q:Option Value->Shared->Prop}(st:SIt w s.heap I a o es ep t i)(hQ:∀e h',(Ed w a ep es)[i]?=some e->SIt w h' I a o es ep t (i+1)->(∀b u,b≠I->s.heap.get? b=some u->h'.get? b=some u)->Q (some e.2) { s with heap:=h' }):wpAny (model prog w) A (pyNext (.ref I)) Q E s:=by
 obtain⟨⟨oi,slot,h1,h2,h3,h4⟩,h5⟩:=st;have hT:s.TypeIs (.ref I) "set_iterator":=⟨oi,h1,h2⟩;unfold pyNext;refine wpAny_bind (wpAny_attempt (wpAny_callSpecial?_slot (name:=Str.ofString "__next__") hT Hz (wpAny_call_entry Hz hT OB ?_ (Rr _))));unfold Builtin.«set_iterator.__next__»;refine wpAny_bind (wpAny_pure ?_);refine wpAny_bind (wpAny_fieldsOf h1 h3 ?_);show wpAny _ _ (setEntries a >>= _) _ _ s;refine wpAny_bind (wpAny_setEntries_of h5 hd hf ?_);rw[if_neg (by simp)];show wpAny _ _ (setNext a (slot:Int).toNat (i:Int).toNat (ep:Int).toNat >>= _) _ _ s;simp only[Int.toNat_natCast];refine wpAny_bind (Ka h5 hd hf up hpl HC h4 (fun e he Kk UY=>?_) fun hn=>?_)
 ·have iI:I<s.heap.objs.size:=Heap.lt_size h1;refine wpAny_bind (wpAny_setField h1 h3 (by simp) ?_);have g1:=Heap.get?_update_self (Obj.mapFields (·.setIfInBounds 0 (rawInt Kk))) h1 (Obj.isFreed_of_fields (Obj.data_mapFields h3 _));refine wpAny_bind (wpAny_setField g1 (Obj.data_mapFields h3 _) (by simp) ?_);have g2:=Heap.get?_update_self (Obj.mapFields (·.setIfInBounds 1 (rawInt ((i:Int)+1)))) g1 (Obj.isFreed_of_fields (Obj.data_mapFields (Obj.data_mapFields h3 _) _));refine wpAny_pure ⟨_,rfl,wpAny_pure ?_⟩;have other:∀b u,b≠I->s.heap.get? b=some u->((s.heap.update I (Obj.mapFields (·.setIfInBounds 0 (rawInt Kk)))).update I (Obj.mapFields (·.setIfInBounds 1 (rawInt ((i:Int)+1))))).get? b=some u:=fun b u hb e=>by
   have Ja:I≠b:=Ne.symm hb;rw[Heap.get?_update_other _ _ Ja,Heap.get?_update_other _ _ Ja];exact e
  refine hQ e _ he ⟨⟨_,Kk,g2,?_,?_,UY⟩,other a o Bq h5⟩ other
  ·rw[Obj.cls_mapFields,Obj.cls_mapFields];exact h2
  ·rw[Obj.data_mapFields (Obj.data_mapFields h3 _)];simp[rawInt]
 ·exfalso;rw[Array.getElem?_eq_getElem (by rw[IX];exact hi)]at hn;cases hn
theorem ZU(hh:A.handled=none){I:Addr}(hd:o.data=.set es ep t)(hf:t.fits es.size=true)(up:t.place.toList.Pairwise (·<·))(hpl:t.plain=true)(HC:t.led=PD w){Q:Option Value->Shared->Prop}(st:SIt w s.heap I a o es ep t es.size)(hQ:∀h',(∀b u,b≠I->s.heap.get? b=some u->h'.get? b=some u)->Q none { s with heap:=h' }):wpAny (model prog w) A (pyNext (.ref I)) Q E s:=by
 obtain⟨⟨oi,slot,h1,h2,h3,h4⟩,h5⟩:=st;have hT:s.TypeIs (.ref I) "set_iterator":=⟨oi,h1,h2⟩;unfold pyNext;refine wpAny_bind (wpAny_attempt (wpAny_callSpecial?_slot (name:=Str.ofString "__next__") hT Hz (wpAny_call_entry Hz hT OB ?_ (Rr _))));unfold Builtin.«set_iterator.__next__»;refine wpAny_bind (wpAny_pure ?_);refine wpAny_bind (wpAny_fieldsOf h1 h3 ?_);show wpAny _ _ (setEntries a >>= _) _ _ s;refine wpAny_bind (wpAny_setEntries_of h5 hd hf ?_);rw[if_neg (by simp)];show wpAny _ _ (setNext a (slot:Int).toNat (es.size:Int).toNat (ep:Int).toNat >>= _) _ _ s;simp only[Int.toNat_natCast];refine wpAny_bind (Ka h5 hd hf up hpl HC h4 (fun e he Kk UY=>?_) fun hn=>?_)
 ·exfalso
  have:=(Array.getElem?_eq_some_iff.mp he).1
  rw[IX]at this;exact Nat.lt_irrefl _ this
 ·dsimp only;refine wpAny_bind (wpAny_setField h1 h3 (by simp) ?_);refine wpAny_bind ?_;simp only[newExc,newTuple];refine wpAny_bind (wpAny_newObj_type ?_ (by size_fits));refine wpAny_bind (m:=firstArgMember _ _) (wpAny_of_eq (a:=Value.none) (by first|rfl|(simp only[firstArgMember];rfl)) ?_);refine wpAny_newObj_type ?_ (by size_fits);simp only[raiseNew];refine wpAny_bind (wpAny_handled ?_);rw[show A.in1.handled=none from hh];refine wpAny_bind (wpAny_pure (wpAny_throw ?_));refine wpAny_bind (wpAny_isInstance (T:="StopIteration") (b:=true) ⟨_,Heap.get?_push_size _ rfl,rfl⟩ isSubtype_stop ?_);refine wpAny_pure (hQ _ fun b u hb e=>?_);exact(((Heap.SameBut.update ..).extBut.push _).push _) b u hb e
theorem OG:entryFor table "list.extend.loop"=some Builtin.«list.extend.loop»:=entryFor_of_tree (by kernel_rfl)
theorem HX:plainId "list.extend.loop"=true:=by decide +kernel
theorem WX{R:Result->Shared->Prop}{I S:Addr}(hh:A.in1.handled=none)(Bq:a≠I)(ph:S≠a)(Nz:S≠I)(hd:o.data=.set es ep t)(hf:t.fits es.size=true)(up:t.place.toList.Pairwise (·<·))(hpl:t.plain=true)(HC:t.led=PD w)(hn:es.size<=77) :
  ∀(n i:Nat)(s:Shared)(Ae:Array Value)(c:Nat),es.size-i=n->i<=es.size->SIt w s.heap I a o es ep t i->s.heap.get? S=some { cls:=.type "list",data:=.seq Ae c }->Ae.toList=((Ed w a ep es).toList.take i).map (·.2) →
   (∀h' c',(∀b u,b≠S->b≠I->s.heap.get? b=some u->h'.get? b=some u)->h'.get? S=some { cls:=.type "list",data:=.seq ((Ed w a ep es).toList.map (·.2)).toArray c' }->R (.ok (.ret (.ref S))) { s with heap:=h' }) →
   codeAny (model prog w) A (.builtin "list.extend.loop" ⟨[.ref S,.ref I,.ref S],[]⟩) R s:=by
 have Nq:=IX w a ep es;have Bo:∀n,n<=77->n<=sizeLine:=fun n hn=>Nat.le_trans hn (by rw[sizeLine_eq];decide);intro n
 induction n with
 |zero=>
  intro i s Ae c hk hi st hS Ji hR;obtain rfl:i=es.size:=by lia
  refine codeAny_builtin OG ?_;rw[Around.under_plainId HX _];refine wpAny_bind (m:=pyNext (.ref I)) (ZU hh hd hf up hpl HC st fun h' DP=>?_);refine wpAny_pure (hR h' c (fun b u _ hb e=>DP b u hb e) ?_);rw[DP S _ Nz hS];have:Ae=((Ed w a ep es).toList.map (·.2)).toArray:=by
   rw[<-Nq,<-Array.length_toList,List.take_length]at Ji;rw[<-Ji]
  rw[this]
 |succ n ih=>
  intro i s Ae c hk hi st hS Ji hR;have Ar:i<es.size:=by lia
  refine codeAny_builtin OG ?_;rw[Around.under_plainId HX _];refine wpAny_bind (m:=pyNext (.ref I)) (Xp hh Bq hd hf up hpl HC Ar st fun e h1 he BS NI=>?_);have Zv:=NI S _ Nz hS;have fT:Ae.size=i:=by
   rw[<-Array.length_toList,Ji,List.length_map,List.length_take,Array.length_toList,Nq];lia
  show wpAny _ A.in1 (updateSeq S (·.push e.2) >>= _) _ _ _;refine wpAny_bind (wpAny_updateSeq (s:={ s with heap:=h1 }) Zv rfl ?_ (by rw[fT];exact Bo _ (by lia)) (by
   show(Ae.push e.2).size<=sizeLine+1;rw[Array.size_push,fT]
   have:=Bo i (by lia)
   lia))
  have g1:=Heap.get?_update_self (Obj.mapSeq (·.push e.2)) Zv rfl;have bL:∀b u,b≠S->h1.get? b=some u->(h1.update S (Obj.mapSeq (·.push e.2))).get? b=some u:=fun b u hb q=>(Heap.get?_update_other _ _ (Ne.symm hb)).trans q;refine wpAny_pure ⟨plainId_quiet HX _,ih (i+1) _ (Ae.push e.2) _ (by lia) Ar ?_ g1 ?_ fun h' c' DP JI=>hR h' c' (fun b u LI Yy q=>DP b u LI Yy (bL b u LI (NI b u Yy q))) JI⟩
  ·obtain⟨⟨oi,slot,z1,z2,z3,z4⟩,z5⟩:=BS;exact⟨⟨oi,slot,bL _ _ (Ne.symm Nz) z1,z2,z3,z4⟩,bL _ _ (Ne.symm ph) z5⟩
  ·have lO:(Ed w a ep es).toList[i]?=some e:=by rw[Array.getElem?_toList];exact he
   rw[Array.toList_push,Ji,List.take_add_one,lO,List.map_append];rfl
end
theorem Nh{M:Model}{A:Around}{E:Value->Shared->Prop}{s:Shared}{Q:Bool->Shared->Prop}(h:∀b,Q b s):wpAny M A setsByText Q E s:=by unfold setsByText;exact wpAny_bind (wpAny_askSetting (wpAny_pure (h _)))
theorem VW{α β:Type}{l' l:List α}(p:l'.Perm l):∀(m:List β),m.length=l.length->∃m',m'.Perm m/\m'.length=l'.length/\(l'.zip m').Perm (l.zip m):=by
 induction p with
 |nil=>intro m hm;exact⟨m,.refl _,hm,.refl _⟩
 |cons x p ih=>
  intro m hm;cases m with
  |nil=>simp at hm
  |cons b m=>
   obtain⟨m',h1,h2,h3⟩:=ih m (by simpa using hm);exact⟨b::m',h1.cons b,by simp[h2],h3.cons _⟩
 |swap x y l=>
  intro m hm
  match m,hm with
  |[],hm=>simp at hm
  |[_],hm=>simp at hm
  |b::c::m,hm=>
   exact⟨c::b::m,.swap _ _ _,by simpa using hm,.swap _ _ _⟩
 |trans p q qE qB=>
  intro m hm;obtain⟨m1,h1,h2,h3⟩:=qB m hm;obtain⟨m2,h4,h5,h6⟩:=qE m1 h2;exact⟨m2,h4.trans h1,h5,h6.trans h3⟩
section
variable {prog:Program}{w:World}{K:Type} [DecidableEq K] {knd:EK prog w K}{A:Around}{E:Value->Shared->Prop}{s:Shared}
theorem QE{a:Addr}{o:Obj}{es:Array (Int×Value)}{ep:Nat}{t:SetTable}{Q:Value->Shared->Prop}(ho:s.heap.get? a=some o)(hex:o.ExactSet)(hd:o.data=.set es ep t)(hf:t.fits es.size=true)(hpl:t.plain=true)(h:Q (.ref s.heap.objs.size) { s with heap:=s.heap.push { cls:=.type "set_iterator",data:=.fields #[.int (0:Nat) 0,.int (0:Nat) 0,.ref a,.int es.size 0,.int ep 0] } }):wpAny (model prog w) A (pyIter (.ref a)) Q E s:=by
 have hT:s.TypeIs (.ref a) "set":=⟨o,ho,hex.1⟩;refine wpAny_pyIter_slot hT F.slot_set_iter (wpAny_call_entry F.slot_set_iter hT Js ?_ (F.args_set_iter_1 _));unfold Builtin.«frozenset.__iter__»;refine wpAny_bind (wpAny_pure ?_);refine wpAny_bind ?_;unfold Builtin.Frozenset.sizeOf;refine wpAny_bind (wpAny_setEntries_of ho hd hf (wpAny_pure ?_));refine wpAny_bind ?_;unfold setDrawn;refine wpAny_bind (wpAny_setState_of ho hd hf ?_);dsimp only;refine wpAny_bind (Nh fun bt=>?_);refine wpAny_pure ?_;rw[if_neg (by
  show ¬(!bt&&(!t.plain&&decide (es.size > 1)))=true;rw[hpl];simp)]
 refine wpAny_bind ?_;refine wpAny_pure ?_;refine wpAny_bind (wpAny_setEpoch_of ho hd hf ?_);unfold newFields;refine wpAny_bind (wpAny_newObj_type (wpAny_pure ⟨_,rfl,"set_iterator",_,⟨_,Heap.get?_push_size _ rfl,rfl⟩,Hz.lookup,?_⟩) (by size_fits));simpa[rawInt]using h
theorem NO{a:Addr}{ks:List K}{Q:List Value->Shared->Prop}(hh:A.handled=none)(S:SetAt knd s.heap a ks)(h:∀(h':Heap)(GH:List K)(vs:List Value),GH.Perm ks->vs.length=GH.length->(∀(i:Nat) k v,GH[i]?=some k->vs[i]?=some v->knd.is h' k v)->(∀b o,s.heap.get? b=some o->h'.get? b=some o)->Q vs { s with heap:=h' }):wpAny (model prog w) A (collect (.ref a)) Q E s:=by
 obtain⟨o,es,ep,t,ho,hex,hd,T,hc,hpl,HC⟩:=S;obtain⟨fw,Zf,OQ⟩:=Ml hc;have hf:=T.fits (by lia);have k8:es.size<=77:=by rcases hc with⟨_,z⟩|⟨_,z⟩|⟨_,z⟩<;>lia
 have up:t.place.toList.Pairwise (·<·):=by
  obtain⟨js,T1,e1,e2⟩:=T.ex
  have:=T1.up
  rw[EW (by rw[e2,List.length_map,Array.length_toList])]at this;rw[e1];exact this
 have dX:a<s.heap.objs.size:=Heap.lt_size ho;unfold collect;refine wpAny_bind (wpAny_runValue (codeAny_builtin F.entry_proto_collect ?_));rw[Around.under_plainId F.plain_proto_collect _];refine wpAny_bind (m:=newList []) (wpAny_newObj_type ?_);refine wpAny_pure ⟨plainId_quiet F.plain_list_iadd _,codeAny_builtin F.entry_list_iadd ?_⟩;rw[Around.under_plainId F.plain_list_iadd _];show wpAny _ A.in1 (Builtin.List.listExtendWith (.ref s.heap.objs.size) (.ref a) _) _ _ _;unfold Builtin.List.listExtendWith;generalize gv:({ cls:=.type "list",data:=.seq ([]:List Value).toArray }:Obj)=ol;have Ls:(s.heap.push ol).get? a=some o:=Heap.get?_push_of_some _ ho;have om:Shared.TypeIs { s with heap:=s.heap.push ol } (.ref a) "set":=⟨o,Ls,hex.1⟩;refine wpAny_bind (wpAny_typeOf om ?_);have z1:Builtin.List.listSameRef (.ref s.heap.objs.size) (.ref a)=false:=by
  have:s.heap.objs.size≠a:=Nat.ne_of_gt dX;simp[Builtin.List.listSameRef,this]
 have z2:(Value.type "set"==Value.type "list")=false:=by decide
 have z3:(Value.type "set"==Value.type "tuple")=false:=by decide
 simp only[z1,z2,z3,Bool.or_false,Bool.false_eq_true,if_false];refine wpAny_bind (QE (s:={ s with heap:=s.heap.push ol }) Ls hex hd hf hpl ?_);generalize PY:({ cls:=.type "set_iterator",data:=.fields #[.int (0:Nat) 0,.int (0:Nat) 0,.ref a,.int es.size 0,.int ep 0] }:Obj)=oi;have hI:({ s with heap:=s.heap.push ol }:Shared).heap.objs.size=s.heap.objs.size+1:=Heap.size_push ..;rw[hI];have Ub:((s.heap.push ol).push oi).get? a=some o:=Heap.get?_push_of_some _ Ls;have iO:Shared.TypeIs { s with heap:=(s.heap.push ol).push oi } (.ref a) "set":=⟨o,Ub,hex.1⟩;refine wpAny_bind (wpAny_holding ?_);unfold Builtin.List.listLengthHint;refine wpAny_bind (wpAny_specialOf iO F.slot_set_len.lookup ?_);show wpAny _ _ (isInstance (.ref a) (.type "set") >>= _) _ _ _;refine wpAny_bind (wpAny_isInstance iO sub_set_self ?_);rw[if_neg (by simp)];show wpAny _ _ (if _=true then(typeOf (.ref a) >>= _)else _) _ _ _;rw[if_pos (by decide +kernel)];refine wpAny_bind (wpAny_typeOf iO (wpAny_pure ?_));rw[if_pos (by decide +kernel)];refine wpAny_bind (wpAny_rule ?_);subst gv;have Zv:((s.heap.push ({ cls:=.type "list",data:=.seq ([]:List Value).toArray }:Obj)).push oi).get? s.heap.objs.size=some ({ cls:=.type "list",data:=.seq ([]:List Value).toArray }:Obj):=Heap.get?_push_of_some _ (Heap.get?_push_size _ rfl);refine wpAny_bind ?_;show wpAny _ A.in1 (updateSeq s.heap.objs.size (·.push .none) >>= fun _=>updateSeq s.heap.objs.size _) _ _ _;refine wpAny_bind (wpAny_updateSeq Zv rfl ?_);have g1:=Heap.get?_update_self (Obj.mapSeq (·.push Value.none)) Zv rfl;refine wpAny_updateSeq g1 rfl ?_;have g2:=Heap.get?_update_self (Obj.mapSeq (·.pop)) g1 rfl;have bL:∀b u,b≠s.heap.objs.size->((s.heap.push ({ cls:=.type "list",data:=.seq ([]:List Value).toArray }:Obj)).push oi).get? b=some u->((((s.heap.push ({ cls:=.type "list",data:=.seq ([]:List Value).toArray }:Obj)).push oi).update s.heap.objs.size (Obj.mapSeq (·.push Value.none))).update s.heap.objs.size (Obj.mapSeq (·.pop))).get? b=some u:=fun b u hb e=>
  (Heap.get?_update_other _ _ (Ne.symm hb)).trans ((Heap.get?_update_other _ _ (Ne.symm hb)).trans e)
 have gM:a≠s.heap.objs.size:=Nat.ne_of_lt dX;have Nz:s.heap.objs.size≠s.heap.objs.size+1:=Nat.ne_of_lt (Nat.lt_succ_self _);have jb:((s.heap.push ({ cls:=.type "list",data:=.seq ([]:List Value).toArray }:Obj)).push oi).get? (s.heap.objs.size+1)=some oi:=by
  have:=Heap.get?_push_size (s.heap.push ({ cls:=.type "list",data:=.seq ([]:List Value).toArray }:Obj)) (o:=oi) (by rw[<-PY];rfl)
  rw[Heap.size_push]at this;exact this
 refine wpAny_pure ⟨plainId_quiet HX _,WX (A:=A) (by simp[hh]) (Nat.ne_of_lt (Nat.lt_succ_of_lt dX)) (Ne.symm gM) Nz hd hf up hpl HC k8 (es.size-0) 0 _ _ _ rfl (Nat.zero_le _) ?_ g2 ?_ fun h' c' hk JI=>?_⟩
 ·refine⟨⟨oi,0,bL _ _ (Ne.symm Nz) jb,by rw[<-PY],by rw[<-PY],.inr ?_⟩,bL _ _ gM Ub⟩;have z:=Fd t.place 0 up;by_cases c:SetTable.below t.place 0=0
  ·exact c
  ·have hz:0<t.place.size:=by lia
   have:=z.2.1 0 (by lia) _ (Array.getElem?_eq_getElem hz)
   lia
 ·simp
 ·have keep:∀b u,s.heap.get? b=some u->h'.get? b=some u:=fun b u e=>by
   have hb:=Heap.lt_size e;exact hk b u (Nat.ne_of_lt hb) (Nat.ne_of_lt (Nat.lt_succ_of_lt hb)) (bL b u (Nat.ne_of_lt hb) (Heap.get?_push_of_some _ (Heap.get?_push_of_some _ e)))
  refine wpAny_bind (m:=load s.heap.objs.size) (wpAny_load JI (wpAny_pure ?_));obtain⟨GH,pm,hl,OI⟩:=T.els;have qf:=MN w a ep es;obtain⟨dg,jU,XF,jy⟩:∃dg:List K,dg.Perm GH/\dg.length=(Ed w a ep es).size/\∀(i:Nat) k e,dg[i]?=some k->(Ed w a ep es)[i]?=some e->ElP knd s.heap k e:=by
   obtain⟨m',p1,p2,p3⟩:=VW qf GH (by rw[hl,Array.length_toList]);refine⟨m',p1,by rw[p2,Array.length_toList],fun i k e h1 h2=>?_⟩;have hm:(e,k)∈(Ed w a ep es).toList.zip m':=by
    refine List.mem_of_getElem? (i:=i) ?_;rw[List.getElem?_zip_eq_some];exact⟨by rw[Array.getElem?_toList];exact h2,h1⟩
   obtain⟨j,hj,ej⟩:=List.getElem_of_mem (p3.mem_iff.mp hm);have iQ:(es.toList.zip GH)[j]?=some (e,k):=by rw[List.getElem?_eq_getElem hj,ej]
   rw[List.getElem?_zip_eq_some]at iQ;exact OI j k e iQ.2 (by rw[<-Array.getElem?_toList];exact iQ.1)
  refine h h' dg _ (jU.trans pm) (by simp[XF]) (fun i k v h1 h2=>?_) keep;have h3:((Ed w a ep es).toList.map (·.2))[i]?=some v:=h2;rw[List.getElem?_map]at h3;obtain⟨e,he,rfl⟩:=Option.map_eq_some_iff.mp h3;exact knd.keeps (jy i k e h1 (by rw[<-Array.getElem?_toList];exact he)).is fun b u q _ _=>keep b u q
end
end TF
namespace TF
open PySem PySem.Spec L2
open PyProof.Rows hiding St RelV
section
variable {prog:Program}{w:World}{A:Around}{E:Value->Shared->Prop}{s:Shared}
def SqAt(h:Heap)(p:Sq)(u:Value):Prop:=∃a,u=.ref a/\RQ h (sq p) a
theorem SqAt.items{h:Heap}{p:Sq}{u:Value}(x:SqAt h p u):∃a o n t1 t2,u=.ref a/\h.get? a=some o/\o.cls=.type "tuple"/\o.data=.seq #[.int p.1 t1,.int p.2 t2] n:=by obtain⟨a,rfl,hk,r⟩:=x;unfold sq at r;rw[AtH]at r;obtain⟨b,us,e,ht,hl⟩:=r;cases e;rw[AtL]at hl;obtain⟨u1,r1,rfl,h1,hl⟩:=hl;rw[AtL]at hl;obtain⟨u2,r2,rfl,h2,hl⟩:=hl;rw[AtL]at hl;subst hl;rw[AtH]at h1 h2;obtain⟨t1,rfl⟩:=h1;obtain⟨t2,rfl⟩:=h2;obtain⟨o,ho,hc,n,hd⟩:=ht;exact⟨a,o,n,t1,t2,rfl,ho,hc,hd⟩
theorem SqAt.mk{h:Heap}{p:Sq}{a:Addr}{o:Obj}{n:Nat}{t1 t2:Tok}(ho:h.get? a=some o)(hc:o.cls=.type "tuple")(hd:o.data=.seq #[.int p.1 t1,.int p.2 t2] n):SqAt h p (.ref a):=by refine⟨a,rfl,CC p,?_⟩;unfold sq;rw[AtH];refine⟨a,[.int p.1 t1,.int p.2 t2],rfl,⟨o,ho,hc,n,hd⟩,?_⟩;simp only[AtL,AtH];exact⟨_,_,rfl,⟨_,rfl⟩,_,_,rfl,⟨_,rfl⟩,rfl⟩
theorem SqAt.key{h:Heap}{p:Sq}{u:Value}(x:SqAt h p u):∃a,u=.ref a/\RQ h (sq p) a:=x
theorem N7{p:Sq}{u:Value}{Q:Bool->Shared->Prop}(x:SqAt s.heap p u)(h:Q true s):wpAny (model prog w) A (eqIsQuiet 8 u) Q E s:=by obtain⟨a,rfl,hk⟩:=x;exact(A8 prog w).quiet hk h
theorem K9{p:Sq}{u:Value}{Q:Bool->Shared->Prop}(x:SqAt s.heap p u)(h:Q false s):wpAny (model prog w) A (ofAClassStatement 8 u) Q E s:=by obtain⟨a,o,n,t1,t2,rfl,ho,hc,hd⟩:=x.items;have hT:s.TypeIs (.ref a) "tuple":=⟨o,ho,hc⟩;unfold ofAClassStatement;refine wpAny_bind (wpAny_typeOf hT ?_);dsimp only;refine wpAny_bind (wpAny_pure ?_);simp only[Bool.not_true,Bool.false_eq_true,if_false];refine wpAny_bind (wpAny_seqItems ho hd ?_);dsimp only;refine wpAny_bind ?_;rw[<-Array.forIn_toList];simp only[List.forIn_cons,List.forIn_nil,ofAClassStatement,pure_bind,Bool.false_eq_true,if_false];exact wpAny_pure (wpAny_pure h)
theorem Qc{p:Sq}{u:Value}{Q:Bool->Shared->Prop}(x:SqAt s.heap p u)(h:Q true s):wpAny (model prog w) A (hashByValue 8 u) Q E s:=by obtain⟨a,o,n,t1,t2,rfl,ho,hc,hd⟩:=x.items;have hT:s.TypeIs (.ref a) "tuple":=⟨o,ho,hc⟩;unfold hashByValue;refine wpAny_bind (wpAny_specialOf hT F.slot_tuple_hash.lookup ?_);dsimp only;refine wpAny_bind (wpAny_seqItems ho hd ?_);refine wpAny_bind ?_;show wpAny _ _ (forIn #[_,_] _ _) _ _ _;rw[<-Array.forIn_toList];simp only[List.forIn_cons,List.forIn_nil,hashByValue,pure_bind,Bool.not_true,Bool.false_eq_true,if_false];exact wpAny_pure (wpAny_pure h)
theorem Tp{p:Sq}{u:Value}{vs:List Value}{Q:Bool->Shared->Prop}(x:SqAt s.heap p u)(hv:∀v∈vs,∃y,SqAt s.heap y v)(h:Q false s):wpAny (model prog w) A (searchCouldBeSeen u vs) Q E s:=by
 unfold searchCouldBeSeen;refine wpAny_bind ?_;refine wpAny_forIn_list _ (fun rest r s'=>r.1=none/\s'=s/\∀v∈rest,∃y,SqAt s.heap y v) _ ?_ ?_ _ _ ⟨rfl,rfl,hv⟩
 ·rintro v rest r s' ⟨hr,rfl,Dj⟩;obtain⟨y,hy⟩:=Dj v List.mem_cons_self;have ai:∀v∈rest,∃y,SqAt s'.heap y v:=fun v hv=>Dj v (List.mem_cons_of_mem _ hv);obtain⟨a',eu,_⟩:=x.key;obtain⟨b',ev,_⟩:=hy.key;subst eu;subst ev;dsimp only;split
  ·exact wpAny_pure (show _/\_ from⟨rfl,rfl,ai⟩)
  ·refine wpAny_bind (N7 x ?_);simp only[Bool.not_true,Bool.false_eq_true,if_false];refine wpAny_bind (N7 hy ?_);simp only[Bool.not_true,Bool.false_eq_true,if_false];refine wpAny_bind (K9 x ?_);simp only[Bool.false_eq_true,if_false];refine wpAny_bind (K9 hy ?_);simp only[Bool.false_eq_true,if_false];exact wpAny_pure (show _/\_ from⟨rfl,rfl,ai⟩)
 ·rintro⟨r1,r2⟩ s' ⟨hr,rfl,_⟩;simp only at hr;subst hr;exact wpAny_pure h
def d0(prog:Program)(w:World)(P:Sq->Value->Prop):EK prog w Sq where
 is:=fun h p u=>SqAt h p u/\P p u
 hash:=fun p=>Dv (sq p)
 room:=fun A=>A.units+6<cLine
 noscan:=fun x=>by obtain⟨⟨a,rfl,_⟩,_⟩:=x;rfl
 eqBool:=@fun A E s p q u v Q hu hx hy h=>by
  obtain⟨⟨a,rfl,hx⟩,_⟩:=hx
  obtain⟨⟨b,rfl,hy⟩,_⟩:=hy
  refine(A8 _ _).eqBool hu hx hy ?_
  by_cases e:p=q
  ·subst e;simpa using h
  ·have e':sq p≠sq q:=fun z=>e (Kv z)
   rw[decide_eq_false e'] ;rw[decide_eq_false e]at h;exact h
 byValue:=fun x h=>Qc x.1 h
 unseen:=fun x hv h=>Tp x.1 (fun v Xn=>let ⟨y,hy⟩:=hv v Xn;⟨y,hy.1⟩) h
 pyHash:=fun hu hx h=>by
  obtain⟨⟨a,rfl,hx⟩,_⟩:=hx
  exact(A8 _ _).pyHash hu hx (h _)
 keeps:=fun x hk=>by
  obtain⟨x,hp⟩:=x
  obtain⟨a,o,n,t1,t2,rfl,ho,hc,hd⟩:=x.items
  exact⟨.mk (hk a o ho (fun es ep t e=>by rw[hd]at e;cases e) fun vs e=>by rw[hd]at e;cases e) hc hd,hp⟩
end
def Rm(p:Sq):Int:=reduceHash (Builtin.Tuple.tupleHashOf [hashInt p.1,hashInt p.2])
theorem Sf(p:Sq):Dv (sq p)=Rm p:=by unfold sq Rm;simp only[Dv,DL]
theorem RI{h:Heap}:∀{l:List Sq}{us:List Value},AtL h (l.map sq) us->us.length=l.length/\∀(j:Nat) p v,l[j]?=some p->us[j]?=some v->AtH h (sq p) v
 |[],us,r=>by
  rw[List.map_nil,AtL]at r;subst r;exact⟨rfl,fun j p v h=>by simp at h⟩
 |p::l,us,r=>by
  rw[List.map_cons,AtL]at r;obtain⟨u,q,rfl,h1,h2⟩:=r;obtain⟨z1,z2⟩:=RI h2;refine⟨by simp[z1],fun j p' v hp hv=>?_⟩;cases j with
  |zero=>simp at hp hv;subst hp;subst hv;exact h1
  |succ j=>exact z2 j p' v (by simpa using hp) (by simpa using hv)
theorem AtH.sqAt{h:Heap}{p:Sq}{u:Value}(r:AtH h (sq p) u):SqAt h p u:=by have r':=r;unfold sq at r';rw[AtH]at r';obtain⟨a,_,rfl,_,_⟩:=r';exact⟨a,rfl,CC p,r⟩
structure UOk (U:List Sq):Prop where
 inj:∀k∈U,∀k'∈U,Dv (sq k')=Dv (sq k)->k'=k
 len:U.length<=75
theorem cf{U:List Sq}(h:(U.map Rm).Nodup)(hl:U.length<=75):UOk U:=by
 refine⟨fun k hk k' DP e=>?_,hl⟩;rw[Sf,Sf]at e;unfold List.Nodup at h;rw[List.pairwise_map]at h;refine Classical.byContradiction fun ne=>?_;obtain⟨i,hi,ei⟩:=List.getElem_of_mem hk;obtain⟨j,hj,ej⟩:=List.getElem_of_mem DP;rcases Nat.lt_trichotomy i j with c|c|c
 ·exact List.pairwise_iff_getElem.mp h i j hi hj c (by rw[ei,ej];exact e.symm)
 ·subst c;exact ne (by rw[<-ei,<-ej])
 ·exact List.pairwise_iff_getElem.mp h j i hj hi c (by rw[ei,ej];exact e)
section
variable {X:Cx}{ρ:Rho}{G:Gs}{a:Expr}{l U:List Sq}{pos p1 p2 p3:Pos}
theorem cK(hs:X.mg "set"=none)(hu:X.A.units+9<cLine)(BI:X.calm=true)(ha:PX X ρ G a (.lst (l.map sq)))(hb:∀p∈l,p∈U)(uo:UOk U){AD:List (Addr×Obj)}{s:Shared}{σ:St}{H:Hp}(I:Inv X AD σ H s)(S:Stt X H σ ρ G){Q:Value->Shared->Prop}(h:∀H1 s1 p,Inv X AD σ H1 s1->Ext H G H1 G->GOk X.K H1 G->SetAt (d0 X.prog X.w fun p u=>∃v,RelV v u/\Rep X.K (hid H1 G) (sq p) v) s1.heap p (Cu [] l)->Q (.ref p) s1)(hg:Gl X "set":=by rfl)(he:starEach [a] X.env=(false,eval a X.env)::starEach [] X.env:=by rfl):wpAny (model X.prog X.w) X.A (eval (.Call (.Name "set" p1) [a] [] p2) X.env) Q X.xe s:=by
 ·refine wpAny_Call_Name_kw (Cv I hg hs (by decide +kernel:bootBuiltins "set"=some (.type "set")) ?_ (by decide) (by decide));refine PyProof.Rows.callWith_type1 (PyProof.Rows.spliced_more (thn (ha AD s σ H I S) fun u s1 ⟨x,H1,I1,r1,d,G1,e1,o1,rx,q1,q2⟩=>PyProof.Rows.spliced_none ?_) he) he rfl;subst q1;subst q2;rw[Rep]at rx;obtain⟨p,vs,rfl,h1,h2⟩:=rx;cases r1;obtain⟨AO,r',pl,hz⟩:=I1.list (SqL.of (AJ _ _ h1));have ra:AtL s1.heap (l.map sq) AO:=(h2.same AJ).at I1 (GB l 7) r';obtain⟨AY,OI⟩:=RI ra;have jl:∀(j:Nat) p u,l[j]?=some p->AO[j]?=some u->∃v,RelV v u/\Rep X.K (hid H1 G1) (sq p) v:=fun j p u hj FI=>by
   obtain⟨v,hv,rv⟩:=h2.get (i:=j) (d:=sq p) (by rw[List.getElem?_map,hj];rfl);obtain⟨u',Lj,r2⟩:=r'.get hv;rw[FI]at Lj;cases Lj;exact⟨v,r2,rv⟩
  refine UL (knd:=d0 X.prog X.w fun p u=>∃v,RelV v u/\Rep X.K (hid H1 G1) (sq p) v) (ks:=l) (U:=U) (I1.ok.hd BI) pl.isList (by show X.A.units+1+1+1+6<cLine;lia) (by simp[AY]) (fun j k v hj hv=>⟨(OI j k v hj (by simpa using hv)).sqAt,jl j k v hj (by simpa using hv)⟩)
   (fun k hk k' DP e=>uo.inj k (hb k hk) k' (hb k' DP) e) hb uo.len fun h' tk hS hk=>?_
  have I2:Inv X AD σ H1 { s1 with heap:=h',toks:=tk }:=I1.call' rfl (Un.kept fun b o e=>hk b o (Heap.lt_size e) e) (I1.hok.kept fun b o e=>hk b o (Heap.lt_size e) e) I1.bare (ch:=[]) (by simp);exact h H1 _ _ I2 e1 o1 hS
theorem SU{K:PySem.W.Frag}{H:Hp}:∀{ks:List Sq}{us:List Value},us.length=ks.length->(∀(i:Nat) k u,ks[i]?=some k->us[i]?=some u->∃v,RelV v u/\Rep K H (sq k) v)->∃vs,Tri K H (ks.map sq) vs us
 |[],us,hl,_=>by
  have:us=[]:=List.length_eq_zero_iff.mp hl;subst this;exact⟨[],.nil⟩
 |k::ks,[],hl,_=>by simp at hl
 |k::ks,u::us,hl,h=>by
  obtain⟨v,r,rep⟩:=h 0 k u rfl rfl;obtain⟨vs,t⟩:=SU (ks:=ks) (us:=us) (by simpa using hl) fun i k' u' h1 h2=>h (i+1) k' u' (by simpa using h1) (by simpa using h2);exact⟨v::vs,.cons rep r t⟩
theorem M5(jk:X.mg "sorted"=none)(hs:X.mg "set"=none)(hu:X.A.units+20<cLine)(BI:X.calm=true)(ha:PX X ρ G a (.lst (l.map sq)))(hb:∀p∈l,p∈U)(hg:Gl X "set":=by rfl)(kD:Gl X "sorted":=by rfl)(he:starEach [a] X.env=(false,eval a X.env)::starEach [] X.env:=by rfl)(he2:starEach [.Call (.Name "set" p1) [a] [] p2] X.env=(false,eval (.Call (.Name "set" p1) [a] [] p2) X.env)::starEach [] X.env:=by rfl)(uo:UOk U:=by exact uok_board) :
  PX X ρ G (.Call (.Name "sorted" p3) [.Call (.Name "set" p1) [a] [] p2] [] pos) (.lst ((TSq.sort (Cu [] l)).map sq)):=by
 intro AD s σ H I S;refine wpAny_Call_Name_kw (Cv I kD jk (by decide +kernel:bootBuiltins "sorted"=some (.builtin "sorted")) ?_ (by decide) (by decide));refine PyProof.Rows.callWith_builtin1 (PyProof.Rows.spliced_more (cK hs (by lia) BI ha hb uo I S (fun H1 s1 p I1 e1 o1 hS=>PyProof.Rows.spliced_none ?_) hg he) he2) he2 rfl;refine Calls.call_function_entry kind_sorted plain_sorted entry_sorted (args_sorted1 _) ?_;unfold Builtin.«sorted»;refine wpAny_bind (m:=checkCount "sorted" 1 1 _) (wpAny_pure ?_);refine wpAny_bind (NO (by simpa using I1.ok.hd BI) hS fun h1 ks us pm AY cQ Jl=>?_);have dv:ks.length<=77:=by
  obtain⟨o,es,ep,t,ho,hex,hd,T,hc,_,_⟩:=hS;have hsz:=T.size;rw[pm.length_eq,<-hsz];rcases hc with⟨_,z⟩|⟨_,z⟩|⟨_,z⟩<;>lia
 have Bo:∀n,n<=77->n<=sizeLine:=fun n hn=>Nat.le_trans hn (by rw[sizeLine_eq];decide);obtain⟨vs,T⟩:=SU (K:=X.K) (H:=hid H1 G) AY fun i k u h1 h2=>(cQ i k u h1 h2).2;obtain⟨rd,r'⟩:=T.rep;have I2:Inv X AD σ H1 { s1 with heap:=h1 }:=I1.call' (s':={ s1 with heap:=h1 }) rfl (Un.kept Jl) (I1.hok.kept Jl) I1.bare (ch:=[]) (by simp);have ra:AtL h1 (ks.map sq) us:=(rd.same AJ).at I2 (GB ks 7) r';refine wpAny_bind (wpAny_newList ?_ (Bo _ (by lia)));have UX:(h1.push (seqObj "list" us.toArray 0)).get? h1.objs.size=some (seqObj "list" us.toArray 0):=Heap.get?_push_size _ rfl;have Fc:∀b o,h1.get? b=some o->(h1.push (seqObj "list" us.toArray 0)).get? b=some o:=fun b o e=>Heap.get?_push_of_some _ e;have O:=QO TSq ks (.inl fun x=>⟨_,_,rfl⟩);refine wpAny_bind (wpAny_holding (wpAny_call_entry slot_list_sort ⟨_,UX,rfl⟩ entry_list_sort (Gn (s:={ s1 with heap:=h1.push (seqObj "list" us.toArray 0) }) (g:=flat) (ds:=ks.map sq) UX (ra.kept Fc) (fun _ _ _ _=>trivial) (fun h' k=>ra.kept fun b o e=>k b o (Nat.ne_of_lt (Heap.lt_size e)) (Fc b o e)) O (Bo _ (by lia)) (by show X.A.units+1+1+8<cLine;lia) fun out hp UY=>⟨_,rfl,?_⟩) (args_list_sort _)));refine wpAny_pure ⟨_,rfl,?_⟩;obtain⟨GS,Io,T',Uu⟩:=LF hp T;obtain⟨Yl,aX⟩:=T'.rep;have fE:Io.length<=sizeLine:=by
  have e1:=aX.length;have e2:=hp.length_eq;exact Bo _ (by lia)
 obtain⟨ep,dq⟩:=sortedHeap_at (out:=out) UX;have D1:∀u∈out.toList,BJ (h1.push (seqObj "list" us.toArray 0)) u=BJ h1 u:=fun u FI=>by
  obtain⟨d,hd,hr⟩:=ra.mem u (hp.mem_iff.mp FI);rw[BN (O.pl d hd) hr,BN (O.pl d hd) (hr.kept Fc)]
 have RF:(GS.map flat).Pairwise (fun x y=>HT.lexLt y x=false):=by
  rw[<-Mz I2 (T'.same AJ) (fun d hd=>O.pl d (Uu.mem_iff.mp hd))];have e:out.toList.map (fun u=>flat (BJ h1 u))=out.toList.map (fun u=>flat (BJ (h1.push (seqObj "list" us.toArray 0)) u)):=List.map_congr_left fun u FI=>by rw[D1 u FI]
  show(out.toList.map fun u=>flat (BJ h1 u)).Pairwise _;rw[e];exact UY
 obtain⟨m,rfl,hm⟩:=Jt sq Uu;have em:m=TSq.sort (Cu [] l):=by
  refine TyD.uniq TSq ((hm.trans pm).trans (TSq.sort_perm _).symm) ?_ (TSq.sort_sorted _);rw[List.map_map,List.pairwise_map]at RF;refine RF.imp fun {x y} h=>?_;unfold TyD.le;have:lx (flat (TSq.f y)) (flat (TSq.f x))=false:=h;rw[this];rfl
 subst em;refine⟨.ref h1.objs.size,upd H1 h1.objs.size (.lst Io),?_,rfl,?_⟩
 ·refine I2.laid (t':=s1.toks) (o:=.lst Io) (fun b o e=>?_) (Nat.le_refl _) ⟨fE,out.toList,ep,aX,by rw[Array.toArray_toList];exact dq⟩;rw[sortedHeap_old (Nat.ne_of_lt (Heap.lt_size e)) (by rw[size_push'];exact Nat.lt_succ_of_lt (Heap.lt_size e))];exact Fc b o e
 ·exact Po.trans e1 (ID o1 (I2.hok.fresh (Nat.le_refl _)) Yl)
end
section
variable {prog:Program}{w:World}{A:Around}{E:Value->Shared->Prop}{s:Shared}
theorem KC{it t:Addr}{i:Nat}{items:Array Value}{x:Value}{Q:Value->Shared->Prop}(hit:s.heap.IsTupleIter it t i)(ht:s.heap.IsTuple t items)(hx:items[i]?=some x)(hQ:∀h',h'.IsTupleIter it t (i+1)->Heap.SameBut it s.heap h'->Q x { s with heap:=h' }):wpAny (model prog w) A (Builtin.SmallTypes.nextOf (.ref it)) Q E s:=by obtain⟨oi,PY,mE,Ry⟩:=id hit;obtain⟨ot,ku,_,nt,iX⟩:=ht;unfold Builtin.SmallTypes.nextOf;refine wpAny_bind (wpAny_callSpecial?_slot (name:=Str.ofString "__next__") hit.typeIs F.slot_tuple_iterator_next (wpAny_call_entry F.slot_tuple_iterator_next hit.typeIs F.entry_tuple_iterator_next ?_ (F.args_tuple_iterator_next_1 _)));refine wpAny_bind (m:=field (.ref it) 0) (wpAny_field PY Ry (x:=.ref t) rfl ?_);rw[if_neg (show ¬((Value.ref t==Value.none)=true)from Bool.false_ne_true)];refine wpAny_bind (m:=field (.ref it) 1) (wpAny_field PY Ry (x:=.int i 0) rfl ?_);refine wpAny_bind (m:=seqItems? (.ref t)) (wpAny_seqItems ku iX ?_);simp only[Int.toNat_natCast,hx];refine wpAny_bind (wpAny_setField PY Ry (by simp) (wpAny_pure ⟨x,rfl,wpAny_pure (hQ _ ⟨_,Heap.get?_update_self _ PY (Obj.isFreed_of_fields (Obj.data_mapFields Ry _)),(Obj.cls_mapFields ..).trans mE,?_⟩ (Heap.SameBut.update ..))⟩));rw[Obj.data_mapFields Ry];simp[rawInt]
theorem Lx{it t:Addr}{i:Nat}{items:Array Value}{Q:Value->Shared->Prop}(hh:A.handled=none)(hit:s.heap.IsTupleIter it t i)(ht:s.heap.IsTuple t items)(hx:items[i]?=none)(hE:∀h' e,Heap.ExtBut it s.heap h'->(∃o,h'.get? e=some o/\o.cls=.type "StopIteration")->E (.ref e) { s with heap:=h' }):wpAny (model prog w) A (Builtin.SmallTypes.nextOf (.ref it)) Q E s:=by
 obtain⟨oi,PY,mE,Ry⟩:=id hit;obtain⟨ot,ku,_,nt,iX⟩:=ht;unfold Builtin.SmallTypes.nextOf;refine wpAny_bind (wpAny_callSpecial?_slot (name:=Str.ofString "__next__") hit.typeIs F.slot_tuple_iterator_next (wpAny_call_entry F.slot_tuple_iterator_next hit.typeIs F.entry_tuple_iterator_next ?_ (F.args_tuple_iterator_next_1 _)));refine wpAny_bind (m:=field (.ref it) 0) (wpAny_field PY Ry (x:=.ref t) rfl ?_);rw[if_neg (show ¬((Value.ref t==Value.none)=true)from Bool.false_ne_true)];refine wpAny_bind (m:=field (.ref it) 1) (wpAny_field PY Ry (x:=.int i 0) rfl ?_);refine wpAny_bind (m:=seqItems? (.ref t)) (wpAny_seqItems ku iX ?_);simp only[Int.toNat_natCast,hx];refine wpAny_bind (wpAny_rule (wpAny_bind (wpAny_setField PY Ry (by simp) ?_)));refine wpAny_bind (m:=newExc (.type "StopIteration") []) ?_;simp only[newExc,newTuple];refine wpAny_bind (wpAny_newObj_type ?_ (by size_fits));refine wpAny_bind (m:=firstArgMember _ _) (wpAny_of_eq (a:=Value.none) (by first|rfl|(simp only[firstArgMember];rfl)) ?_);refine wpAny_newObj_type ?_ (by size_fits);simp only[raiseNew];refine wpAny_bind (wpAny_handled ?_);first|rw[show A.in1.handled=none from hh]|rw[hh]
 exact wpAny_bind (wpAny_pure (wpAny_throw (hE _ _ (((Heap.SameBut.update ..).extBut.push _).push _) ⟨_,Heap.get?_push_size _ rfl,rfl⟩)))
abbrev tiO(t:Addr):Obj:={ cls:=.type "tuple_iterator",data:=.fields #[.ref t,.int 0 0] }
end
theorem L7{F:List Sq}(up:F.Pairwise AZ):F.Pairwise fun x y=>TSq.le x y=true:=up.imp fun {x y} h=>by
 unfold TyD.le;rw[show TSq.f=sq from rfl,Zn];have:¬AZ y x:=fun h'=>A4 _ (CN h h');simp[this]
theorem PXT.cast{X:Cx}{ρ:Rho}{G:Gs}{e:Expr}{p q:Bool}(h:PXT X ρ G e p)(z:p=q):PXT X ρ G e q:=z▸h
section
variable {X:Cx}{ρ:Rho}{G:Gs}{a:Expr}{pos:Pos}
theorem S4(hc:X.calm=true):Bi X (.builtin "sum") (fun xs H Q=>∃(p:Addr)(i j:Int),xs=[.ref p]/\SqT X.K H p [.int i,.int j]/\Q (.int (i+j)) H):=by
 intro AD s σ H xs us Q I r h;obtain⟨p,i,j,rfl,hq,q⟩:=h;obtain⟨u,rfl,rx⟩:=Fp r;cases rx;obtain⟨AO,r',pt,hz⟩:=I.tuple hq;cases r' with
 |cons r1 t1=>
  cases t1 with
  |cons r2 t2=>
   cases t2;obtain⟨k1,rfl⟩:=r1;obtain⟨k2,rfl⟩:=r2;have lq:s.heap.IsTuple p #[.int i k1,.int j k2]:=pt;have Ar:p<s.heap.objs.size:=by obtain⟨o,ho,_⟩:=pt;exact Heap.lt_size ho
   refine call_sum_walkG (wpAny_pyIter_tuple lq ?_);refine⟨s.heap.objs.size,_,_,_,_,_,fun n=>if n=0 then i else j,rfl,Walks.tuple (A:=X.A.in1) (by simpa using I.ok.hd hc) _ p (Nat.ne_of_lt Ar) #[.int i k1,.int j k2],⟨⟨_,Heap.get?_push_size _ rfl,rfl,rfl⟩,lq.push _⟩,fun b hb=>?_,fun n v hv=>?_,fun h' tk t' hk=>?_⟩
   ·show b<(s.heap.push _).objs.size;rw[Heap.size_push];rcases List.mem_cons.mp hb with rfl|hb
    ·exact Nat.lt_succ_self _
    ·rw[List.mem_singleton.mp hb];exact Nat.lt_succ_of_lt Ar
   ·match n,hv with
    |0,hv=>exact⟨k1,by simpa using hv.symm⟩
    |1,hv=>exact⟨k2,by simpa using hv.symm⟩
    |n+2,hv=>simp at hv
   ·have e:preSum (fun n=>if n=0 then i else j) #[Value.int i k1,.int j k2].size=i+j:=by
     show preSum (fun n=>if n=0 then i else j) 2=i+j;simp[preSum]
    rw[e];exact⟨.int (i+j),H,I.kept (t':=tk) fun b o q=>hk b o (by
     rw[List.mem_singleton];exact Nat.ne_of_lt (Heap.lt_size q)) (Heap.get?_push_of_some _ q),⟨t',rfl⟩,q⟩
theorem V1{p:Sq}{pp:Pos}(hc:X.calm=true)(hm:X.mg "sum"=none)(ha:PX X ρ G a (sq p))(hg:Gl X "sum":=by rfl)(he:starEach [a] X.env=(false,eval a X.env)::starEach [] X.env:=by rfl):PX X ρ G (.Call (.Name "sum" pp) [a] [] pos) (.int (p.1+p.2)):=Co (S4 hc) hg hm boot_sum ha (fun H x Q o r k=>by
  unfold sq at r;rw[Rep]at r;obtain⟨q,vs,e,h1,r1⟩:=r;rw[RepL]at r1;obtain⟨v1,w1,rfl,h2,r1⟩:=r1;rw[RepL]at r1;obtain⟨v2,w2,rfl,h3,r1⟩:=r1;rw[RepL]at r1;subst r1;rw[Rep]at h2 h3;subst h2;subst h3;exact⟨q,p.1,p.2,by rw[e],An AJ h1,k _ _ (Ba o rfl)⟩) (he:=he)
end
end TF
namespace TF
open PySem
def Clr(h:Heap)(e:Addr):Prop:=∃oe vs,h.get? e=some oe/\oe.data=.fields vs/\vs[2]?=some .none
theorem Clr.push{h:Heap}{e:Addr}{o:Obj}(b:Clr h e):Clr (h.push o) e:=by obtain⟨oe,vs,a,b,c⟩:=b;exact⟨oe,vs,Heap.get?_push_of_some _ a,b,c⟩
theorem Clr.set{h:Heap}{e b:Addr}{i:Nat}{v:Value}(g:Clr h e)(hi:i≠2\/e≠b):Clr (h.update b (Obj.mapFields (·.setIfInBounds i v))) e:=by
 obtain⟨oe,vs,h1,h2,h3⟩:=g;by_cases q:e=b
 ·subst q;have hd:=Obj.data_mapFields h2 (·.setIfInBounds i v);exact⟨_,_,Heap.get?_update_self _ h1 (Obj.isFreed_of_fields hd),hd,by rw[Array.getElem?_setIfInBounds_ne (hi.resolve_right fun z=>z rfl)];exact h3⟩
 ·exact⟨oe,vs,(Heap.get?_update_other _ _ (Ne.symm q)).trans h1,h2,h3⟩
section
variable {M:Model}{A:Around}{E:Value->Shared->Prop}{s:Shared}{base:Heap}{env:Env}{outer l:List Env}{L e:Addr}{oe:Obj}{vs:Array Value}{head a0 cls:Value}{Q:Unit->Shared->Prop}
def Wrt(base:Heap)(l:List Env)(e:Addr)(cls a0 fl:Value)(h h':Heap):Prop:=Heap.NotedW base l e cls a0 fl h h'/\(Clr h e->Clr h' e)
theorem cA{YZ:Bool}(LH:A.frames=some (env::outer))(hl:s.heap.FunFrames base (env::outer))(hf:env.frame=some L)(he:s.heap.get? e=some oe)(Tq:base.StaysIn s.heap)(kF:base.get? e=none)(hd:oe.data=.fields vs)(hsz:1<vs.size)(h0:vs[0]?=some a0)(h:∀h',Wrt base (env::outer) e oe.cls a0 (rawInt L) s.heap h'->Q () { s with heap:=h' }) :
  wpAny M A (do let a <-frameOf env;let pl <-entryPlaceOf L YZ;let b <-EntryCells.newEntry head a .none (rawInt L) .none pl;setField (.ref e) 1 b) Q E s:=by
 have fh:e∉(env::outer).filterMap (·.frame):=fun hm=>by
  obtain⟨_,o,ho,TB⟩:=hl.mem hm;rw[he]at ho;cases ho;exact TB vs hd
 refine wpAny_bind (wpAny_frameOf_fun LH hl hf fun h₁ hs₁=>wpAny_bind (wpAny_entryPlaceOf fun pl hpl=>?_));unfold EntryCells.newEntry newFields;refine wpAny_bind (wpAny_newObj_type ?_ (hpl.sizeOk5 _ _ _ _ _));have he₁:h₁.get? e=some oe:=(hs₁.2.1 e fh).trans he;have kb₁:base.StaysIn h₁:=fun b o V2=>(hs₁.2.1 b fun hm=>by rw[(hl.mem hm).1]at V2;cases V2).trans (Tq b o V2);generalize htb:({ cls:=.type "traceback",dict:=none,data:=.fields ([head,.ref L,.none,rawInt L,.none]++(if pl.isEmpty then List.replicate 6 Value.none else pl)).toArray }:Obj)=tb;have lE:∃ts,tb.data=.fields ts/\ts[3]?=some (rawInt L):=by
  subst htb;exact⟨_,rfl,by first|(simp;done)|(rcases hpl with rfl|⟨_,_,_,_,_,_,_,rfl⟩<;>simp)⟩
 have qc:tb.isFreed=false:=by subst htb;rfl
 have he₂:=Heap.get?_push_of_some (h:=h₁) tb he₁;refine wpAny_setField he₂ hd hsz (h _ ?_);have f9:h₁.objs.size≠e:=Nat.ne_of_gt (Heap.lt_size he₁);have hd₃:=Obj.data_mapFields hd (·.setIfInBounds 1 (Value.ref h₁.objs.size));have keep:∀b o,b≠e->h₁.get? b=some o->((h₁.push tb).update e (Obj.mapFields (·.setIfInBounds 1 (Value.ref h₁.objs.size)))).get? b=some o:=fun b o hb q=>
  (Heap.get?_update_other _ _ (Ne.symm hb)).trans (Heap.get?_push_of_some _ q)
 have N4:∀b o,s.heap.get? b=some o->(∀vs,o.data≠.fields vs)->b≠e:=fun b o hb TB q=>by
  rw[q,he]at hb;cases hb;exact TB vs hd
 obtain⟨ts,lE,h3⟩:=lE;refine⟨⟨fun b o V2=>keep b o (fun q=>by rw[q,kF]at V2;cases V2) (kb₁ b o V2),hl.of_keeps fun b o hb TB=>?_,?_,fun b o hb TB=>?_⟩,fun g=>Clr.set (Clr.push ?_) (.inl (by decide))⟩
 ·obtain⟨sl,hs⟩:=hs₁.2.2 b o hb;exact⟨_,keep b _ (N4 b o hb TB) hs,rfl⟩
 ·exact⟨_,_,h₁.objs.size,tb,ts,Heap.get?_update_self _ he₂ (Obj.isFreed_of_fields hd₃),⟨Obj.cls_mapFields _ _,by rw[Array.getElem?_setIfInBounds_ne (by decide)];exact h0⟩,hd₃,by simp[hsz],kb₁.fresh,f9,(Heap.get?_update_other _ _ (Ne.symm f9)).trans (Heap.get?_push_size h₁ qc),lE,h3⟩
 ·obtain⟨sl,hs⟩:=hs₁.2.2 b o hb;exact⟨sl,keep b _ (N4 b o hb TB) hs⟩
 ·obtain⟨o,Io,q1,q2⟩:=g;exact⟨o,Io,(hs₁.2.1 e fh).trans q1,q2⟩
theorem Qw(LH:A.frames=some (env::outer))(hl:s.heap.FunFrames base (env::outer))(hf:env.frame=some L)(he:s.heap.get? e=some oe)(Tq:base.StaysIn s.heap)(kF:base.get? e=none)(hd:oe.data=.fields vs)(h1:vs[1]?=some .none)(h0:vs[0]?=some a0)(h:∀h',Wrt base (env::outer) e oe.cls a0 (rawInt L) s.heap h'->Q () { s with heap:=h' }):wpAny M A (noteFrame (.ref e) env) Q E s:=by unfold noteFrame;simp only[hf];refine wpAny_bind (wpAny_field he hd h1 ?_);rw[if_neg (by decide)];exact cA LH hl hf he Tq kF hd (Array.getElem?_eq_some_iff.mp h1).1 h0 h
theorem cO{fr:Option Addr}{fl:Value}(Tq:base.StaysIn s.heap)(hl:s.heap.FunFrames base l)(ht:s.heap.TracedAtW base e cls a0 fl)(h:∀h',base.StaysIn h'->h'.FunFrames base l->h'.TracedAtW base e cls a0 (fr.elim .none fun f=>rawInt f)->s.heap.UpToSlots h'->(Clr s.heap e->Clr h' e)->Q () { s with heap:=h' }):wpAny M A (setFlight (.ref e) fr) Q E s:=by
 obtain⟨oe,vs,T,oT,ts,he,Wm,hd,h1,nZ,f9,hT,iD,h3⟩:=ht;have Mk:3<ts.size:=(Array.getElem?_eq_some_iff.mp h3).1;have other:∀b,b≠T->(s.heap.update T (Obj.mapFields (·.setIfInBounds 3 (fr.elim Value.none fun f=>rawInt f)))).get? b=s.heap.get? b:=fun b hb=>Heap.get?_update_other _ _ (Ne.symm hb);have N4:∀b o,s.heap.get? b=some o->(∀vs,o.data≠.fields vs)->b≠T:=fun b o hb TB q=>by
  rw[q,hT]at hb;cases hb;exact TB ts iD
 unfold setFlight;refine wpAny_bind (wpAny_field he hd h1 ?_);rw[if_pos (show(Value.ref T != Value.none)=true from by simp)];refine wpAny_setField hT iD Mk (h _ (fun b o V2=>(other b fun q=>by rw[q,nZ]at V2;cases V2).trans (Tq b o V2))
  (hl.of_keeps fun b o hb TB=>⟨o,(other b (N4 b o hb TB)).trans hb,rfl⟩) ?_ (fun b o hb TB=>⟨o.slots,(other b (N4 b o hb TB)).trans hb⟩) fun g=>Clr.set g (.inl (by decide)))
 exact⟨oe,vs,T,_,_,(other e (Ne.symm f9)).trans he,Wm,hd,h1,nZ,f9,Heap.get?_update_self _ hT (Obj.isFreed_of_fields (Obj.data_mapFields iD _)),Obj.data_mapFields iD _,by simp[Mk]⟩
end
end TF
namespace TF
open PySem PySem.Spec L2
open PyProof.Rows hiding St RelV
structure Fly (P:Program) (w:World) (outer:List Env) (H:Hp) (h:Heap) (H':Hp) (h':Heap) (ea:Addr) (cls:Value):Prop where
 ex:∃a0 B,Heap.FlyingW B outer ea cls a0 h'/\HOk P w H' B/\(∀b o,h.get? b=some o->H b=none->b∉frs outer->B.get? b=some o)/\∀b o,h.get? b=some o->b∉frs outer->∃o',B.get? b=some o'
 un:Un (frs outer) [] H H' h h'
 free:H' ea=none
theorem Fly.hok{P:Program}{w:World}{outer:List Env}{H H':Hp}{h h':Heap}{ea:Addr}{cls:Value}(f:Fly P w outer H h H' h' ea cls):HOk P w H' h':=by obtain⟨a0,B,fl,hb,_⟩:=f.ex;exact hb.kept fl.1
def CXV(P:Program)(w:World):CXT:=fun outer H s E e s'=>∃ea cls H',e=.ref ea/\s'.os=s.os/\AllBare s'.gens/\Fly P w outer H s.heap H' s'.heap ea cls/\E cls none H'
theorem YL{outer:List Env}{H H':Hp}{h h1 h2:Heap}(un:Un (frs outer) [] H H' h h1){B:Heap}(c1:∀b o,h.get? b=some o->H b=none->b∉frs outer->B.get? b=some o)(c2:∀b o,h.get? b=some o->b∉frs outer->∃o',B.get? b=some o'){outer0:List Env}(ff:h1.FunFrames B outer0)(En:∀b∈frs outer,b∈frs outer0)(st:B.StaysIn h2)(up:h1.UpToSlots h2):Un (frs outer) [] H H' h h2:=by
 refine⟨fun b o q n Ja _=>st b o (c1 b o q n Ja),fun b o q n Ja _=>?_,un.free,fun b o q _=>?_,un.tups,un.frzs,un.tbls⟩
 ·obtain⟨sl,e⟩:=un.slot b o q n Ja (by simp);obtain⟨_,o2,e2,hd⟩:=ff.mem (En b Ja);rw[e]at e2;cases e2;obtain⟨Sm,e3⟩:=up b _ e hd;exact⟨Sm,e3⟩
 ·by_cases hf:b∈frs outer
  ·obtain⟨_,o2,e2,hd⟩:=ff.mem (En b hf);obtain⟨Sm,e3⟩:=up b _ e2 hd;exact⟨_,e3⟩
  ·obtain⟨o',e⟩:=c2 b o q hf;exact⟨o',st b o' e⟩
theorem Fly.step{P:Program}{w:World}{outer:List Env}{H H':Hp}{h h1 h2:Heap}{ea:Addr}{cls:Value}(un:Un (frs outer) [] H H' h h1)(free:H' ea=none){a0:Value}{B:Heap}(hb:HOk P w H' B)(c1:∀b o,h.get? b=some o->H b=none->b∉frs outer->B.get? b=some o)(c2:∀b o,h.get? b=some o->b∉frs outer->∃o',B.get? b=some o'){outer0:List Env}(ff:h1.FunFrames B outer0)(En:∀b∈frs outer,b∈frs outer0)(fl:Heap.FlyingW B outer ea cls a0 h2)(up:h1.UpToSlots h2):Fly P w outer H h H' h2 ea cls:=⟨⟨a0,B,fl,hb,c1,c2⟩,YL un c1 c2 ff En fl.1 up,free⟩
theorem Xb{P:Program}{w:World}{H:Hp}{h:Heap}{fs:List Addr}(ok:HOk P w H h)(free:∀c∈fs,H c=none):HOk P w H (PySem.W.hideAll h fs):=fun b u q=>by
 have nb:∀c v,H c=some v->c∉fs:=fun c v r hc=>by
  have:=free c hc
  rw[r]at this;cases this
 refine(ok b u q).stay (fun c o hc r=>?_) (fun _ r=>r) fun _ _ r=>r;rcases hc with rfl|hc
 ·exact PySem.W.hideAll_get _ r (nb _ _ q)
 ·exact PySem.W.hideAll_get _ r (nb _ _ hc)
theorem YE{P:Program}{w:World}{H:Hp}{h:Heap}{ea:Addr}(ok:HOk P w H h)(new:h.get? ea=none):H ea=none:=by
 cases q:H ea with
 |none=>rfl
 |some u=>
  have hl:=(ok ea u q);have:∃o,h.get? ea=some o:=by
   cases u with
   |lst xs=>obtain⟨_,_,_,_,e⟩:=hl;exact⟨_,e⟩
   |tup xs=>obtain⟨_,_,_,o,e,_⟩:=hl;exact⟨_,e⟩
   |dK Ad=>obtain⟨_,_,_,_,o,_,_,e,_⟩:=hl;exact⟨_,e⟩
   |dT Ad=>obtain⟨_,_,_,_,o,_,_,e,_⟩:=hl;exact⟨_,e⟩
   |set S n=>obtain⟨o,_,_,_,e,_⟩:=hl;exact⟨_,e⟩
   |ins C dx fs=>obtain⟨_,_,_,e,_⟩:=hl;exact⟨_,e⟩
   |own y=>obtain⟨_,e⟩:=hl;exact⟨_,e⟩
   |xd fs=>obtain⟨_,⟨_,_,_,e,_⟩,_⟩:=hl;exact⟨_,e⟩
   |rng lo hi=>obtain⟨_,_,_,e⟩:=hl;exact⟨_,e⟩
   |frz ob u=>obtain⟨e,_⟩:=hl;exact⟨_,e⟩
   |tbl ps=>exact⟨_,(show h.get? ea=some _ from hl)⟩
   |met f y=>exact⟨_,(show h.get? ea=some _ from hl)⟩
   |ext φ=>obtain⟨_,⟨o,e⟩,_⟩:=hl;exact⟨_,e⟩
  obtain⟨o,e⟩:=this;rw[new]at e;cases e
section
variable {X:Cx}{AD:List (Addr×Obj)}{σ:St}{H:Hp}{s:Shared}
theorem Kd{env:Env}{l:List Env}{L:Addr}(h:env.frame=some L):frs (env::l)=L::frs l:=by unfold frs;rw[List.filterMap_cons,h]
theorem WD{E:Value->Shared->Prop}(I:Inv X AD σ H s)(hx:X.ex=[])(JN:X.stack=X.env::X.outer)(LH:X.env.frame=some X.env.locals){h2:Heap}{ea:Addr}{cls:Value}{args:List Value}(hm:Heap.MadeExcOf s.heap h2 ea cls args){tk:Nat}{Q:Unit->Shared->Prop}(hQ:∀h',Fly X.prog X.w X.outer X.H₀ X.s₀.heap H h' ea cls->Clr h' ea->Q () { s with heap:=h',toks:=tk }):wpAny (model X.prog X.w) X.A (leaving X.env (.ref ea)) Q E { s with heap:=h2,toks:=tk }:=by
 have stk:=I.stack;have free:=I.stkFree;have N5:=I.ok.frames;rw[JN]at stk N5 free;have P2:∀env∈(X.env::X.outer),∀a,env.frame=some a->a∈(X.env::X.outer).filterMap (·.frame):=fun env he b hb=>List.mem_filterMap.mpr ⟨env,he,hb⟩;have gP:(X.env::X.outer).filterMap (·.frame)=X.env.locals::frs X.outer:=Kd LH;have Xg:∀b o,X.s₀.heap.get? b=some o->b≠X.env.locals:=fun b o e=>Nat.ne_of_lt (Nat.lt_of_lt_of_le (Heap.lt_size e) I.ok.above);have T8:∀b o,X.s₀.heap.get? b=some o->b∉frs X.outer->b∉(X.env::X.outer).filterMap (·.frame):=fun b o e hb JK=>by
  rw[gP]at JK;rcases List.mem_cons.mp JK with z|z
  ·exact Xg b o e z
  ·exact hb z
 have kN:=Xb I.hok free;have Tq:(PySem.W.hideAll s.heap ((X.env::X.outer).filterMap (·.frame))).StaysIn s.heap:=fun b o q=>PySem.W.of_hideAll _ q;have lP:=PySem.W.funFrames_hide stk P2;obtain⟨t,he,rV,ht⟩:=hm.there;have fresh:∀b,s.heap.get? b=none->(PySem.W.hideAll s.heap ((X.env::X.outer).filterMap (·.frame))).get? b=none:=fun b hb=>by
  cases hq:(PySem.W.hideAll s.heap ((X.env::X.outer).filterMap (·.frame))).get? b with
  |none=>rfl
  |some o'=>have:=Tq b o' hq;rw[hb]at this;cases this
 unfold leaving;refine wpAny_bind (Qw (s:={ s with heap:=h2,toks:=tk }) (a0:=.ref t) N5 (lP.of_keeps fun b o hb _=>⟨o,hm.keeps b o hb,rfl⟩) LH he (fun b o hb=>hm.keeps b o (Tq b o hb)) (fresh ea hm.new) rfl rfl rfl fun h3 ⟨⟨k1,k2,k3,k4⟩,k5⟩=>?_);refine cO (s:={ s with heap:=h3,toks:=tk }) k1 k2 k3 fun h' l1 l2 l3 l4 l5=>?_;refine hQ h' ?_ (l5 (k5 ⟨_,_,he,rfl,rfl⟩));have pC:Un X.fs [] X.H₀ H X.s₀.heap h2:=by
  have:=I.base
  rw[hx]at this;exact this.trans (Un.kept hm.keeps)
 have Ll:H ea=none:=YE I.hok hm.new;refine Fly.step pC Ll kN (fun b o q n hb=>?_) (fun b o q hb=>?_) (outer0:=X.env::X.outer) ((PySem.W.funFrames_hide stk P2).of_keeps fun b o hb _=>⟨o,hm.keeps b o hb,rfl⟩) (fun b hb=>by rw[Kd LH];exact List.mem_cons_of_mem _ hb) ⟨l1,fresh ea hm.new,l2.2.2,l3⟩ (Heap.UpToSlots.trans (fun b o q n=>k4 b o q n) l4)
 ·have e:=I.base.keep b o q n hb (by rw[hx];simp);exact PySem.W.hideAll_get _ e (T8 b o q hb)
 ·obtain⟨o',e⟩:=I.base.there b o q (by rw[hx];simp);exact⟨o',PySem.W.hideAll_get _ e (T8 b o q hb)⟩
end
def XPr(X:Cx)(AD:List (Addr×Obj))(H:Hp)(G:Gs)(RX:Value->Gs->Prop)(e:Value)(s':Shared):Prop:=∃ea cls args σ' H' G' s1 h2 tk,e=.ref ea/\s'={ s1 with heap:=h2,toks:=tk }/\Inv X AD σ' H' s1/\Heap.MadeExcOf s1.heap h2 ea cls args/\Ext H G H' G'/\GOk X.K H' G'/\RX cls G'
theorem XPr.trans{X:Cx}{AD:List (Addr×Obj)}{H H1:Hp}{G G1:Gs}{RX:Value->Gs->Prop}{e:Value}{s':Shared}(x:Ext H G H1 G1)(h:XPr X AD H1 G1 RX e s'):XPr X AD H G RX e s':=by obtain⟨ea,cls,args,σ',H',G',s1,h2,tk,a,b,c,d,f,g,r⟩:=h;exact⟨ea,cls,args,σ',H',G',s1,h2,tk,a,b,c,d,x.trans f,g,r⟩
def Mi(X:Cx)(ρ:Rho)(G:Gs)(st:List Stmt)(D:DE)(RX:Value->Gs->Prop):Prop:=∀(AD:List (Addr×Obj))(s:Shared)(σ:St)(H:Hp),Inv X AD σ H s->Stt X H σ ρ G->wpAny (model X.prog X.w) X.A (execs st X.env) (SP X AD (Gk X H G D)) (XPr X AD H G RX) s
section
variable {X:Cx}{ρ:Rho}{G:Gs}{D:DE}{RX:Value->Gs->Prop}{st:Stmt}{rest:List Stmt}{c:Expr}{pos:Pos}
theorem XG{x:List Stmt}(hc:WT X ρ G c fun b G'=>(b=true->Mi X ρ G' x { D with nx:=fun _ _=>False } RX)/\(b=false->Mi X ρ G' rest D RX))(hx:X.xe=fun _ _=>False):Mi X ρ G (.If c x [] pos::rest) D RX:=by
 intro AD s σ H I S;have Ro:=hc AD s σ H I S;rw[hx]at Ro;refine wpAny_execs_cons (wpAny_If (wpAny_mono Ro (fun b s1 ⟨H1,I1,G1,e1,o1,q1⟩=>?_) fun _ _ z=>z.elim));cases b with
 |true=>
  rw[if_pos rfl];refine wpAny_mono (q1.1 rfl AD s1 σ H1 I1 (S.ext e1 o1)) (fun f s2 z=>?_) fun _ _ z=>XPr.trans e1 z;cases f with
  |next=>obtain⟨_,_,_,_,_,_,_,q⟩:=z;exact q.elim
  |ret v=>exact SP.trans (D:=D) e1 z
  |brk=>exact SP.trans (D:=D) e1 z
  |cont=>exact SP.trans (D:=D) e1 z
 |false=>
  rw[if_neg Bool.false_ne_true];exact wpAny_execs_nil (wpAny_mono (q1.2 rfl AD s1 σ H1 I1 (S.ext e1 o1)) (fun _ _ z=>SP.trans e1 z) fun _ _ z=>XPr.trans e1 z)
theorem ZO{x:List Stmt}{b:Bool}(hc:PXT X ρ G c b)(ht:b=true->Mi X ρ G x { D with nx:=fun _ _=>False } RX)(hf:b=false->Mi X ρ G rest D RX)(hx:X.xe=fun _ _=>False):Mi X ρ G (.If c x [] pos::rest) D RX:=XG (DO hc ⟨ht,hf⟩) hx
end
theorem Jb{K:PySem.W.Frag}{h:Heap}{C:Addr}{P7:List Value}{newId:String}(X:K.In h)(q:PySem.W.excIn K C P7 newId=true) :
  ∃bm N nm qn bs hdct sn sub ab col dd k0 k1 k2 k3 k5 mN,h.get? C=some (excClassObj nm qn C N bs bm hdct sn sub ab col dd k0 k1 k2 k3 k5 newId)/\h.Ns N mN/\mN "__init__"=none/\OwnTail h P7 bm/\K.lookup C=some (excClassObj nm qn C N bs bm hdct sn sub ab col dd k0 k1 k2 k3 k5 newId):=by
 unfold PySem.W.excIn at q;split at q
 ·rename_i qx pO oz ao;split at q
  ·rename_i C0 oV a0 a1 a2 a3 sN a5 ed lh;simp only[Bool.and_eq_true,beq_iff_eq,Bool.not_eq_true']at q;obtain⟨⟨⟨⟨⟨rfl,rfl⟩,Zo⟩,tl⟩,bA⟩,V3⟩:=q;obtain⟨qC,oo,jd,qP,qX,jV,qZ,gZ,qK,kB,qb⟩:=pO;dsimp only at ed Zo bA V3;subst ed Zo;obtain⟨rB⟩:=oz;simp only at lh;subst lh;exact⟨oV,qP,qC,qX,oo,jV,qZ,gZ,qK,kB,qx,a0,a1,a2,a3,a5,_,X _ _ ao,.of_isNs (PySem.W.isNs_of_in X bA),PySem.W.nsMap_none_of_in X bA V3,PySem.W.tail_of_in X tl,ao⟩
  ·cases q
 ·cases q
section
variable {X:Cx}{ρ:Rho}{G:Gs}{D:DE}{RX:Value->Gs->Prop}{rest:List Stmt}{es:List Expr}{e₀:Expr}{ds:List Dat}{pos np Au:Pos}{x:Str}{C:Addr}{P7:List Value}{newId cL Bn:String}
theorem Q3(hx:X.xe=fun _ _=>False)(BI:X.calm=true)(hC:PySem.W.excIn X.K C P7 newId=true)(FB:ExcBaseFacts Bn newId cL P7)(hm:X.mg x=some (.ref C))(ha:PXs X ρ G (e₀::es) ds)(hl:ds.length<=1000)(r:RX (.ref C) G)(hg:Gl X x:=by rfl)(HJ:(x==("__debug__":Str))=false:=by decide)(he:starEach (e₀::es) X.env=(false,eval e₀ X.env)::starEach es X.env:=by rfl)(hpl:(backTo Au (starEach es X.env)).any (·.1)=false:=by rfl):Mi X ρ G (.Raise (some (.Call (.Name x np) (e₀::es) [] Au)) none pos::rest) D RX:=by
 intro AD s σ H I S;obtain⟨bm,N,nm,qn,bs,hdct,sn,sub,ab,col,dd,k0,k1,k2,k3,k5,mN,oC,oN,oi,tl,_⟩:=Jb I.mod.kin hC;refine wpAny_execs_cons ?_;refine wpAny_Raise_call_subT (C:=C) (nm:=nm) (q:=qn) (N:=N) (bs:=bs) (bm:=bm) (hdct:=hdct) (sn:=sn) (sub:=sub) (ab:=ab) (col:=col) (dd:=dd) (k0:=k0) (k1:=k1) (k2:=k2) (k3:=k3) (k5:=k5) FB (mN:=mN) (tl.hasType FB.hasBase) (I.ok.hd BI)
  (by rw[he];show(false||(backTo Au (starEach es X.env)).any (·.1))=false;rw[hpl];rfl) oi (Hc I hg hm ⟨rfl,?_⟩ HJ)
 have h1:=ha Au AD s σ H I S;rw[hx]at h1;rw[he]at h1 ⊢;refine Calls.evalArgs_plain (wpAny_mono h1 (fun us s2 ⟨vs,H2,I2,rv,d',G2,e2,o2,rep,q1,q2⟩=>?_) fun _ _ z=>z.elim);subst q1;subst q2;refine⟨rfl,?_,I2.bk _ _ oC,oN.keeps I2.bk,tl.keeps I2.bk,fun h' e JK=>?_⟩
 ·have:us.length<=1000:=by rw[<-rv.length,rep.length];exact hl
  exact Nat.le_trans this (by rw[sizeLine_eq];decide)
 ·exact⟨e,.ref C,us,σ,H2,G2,s2,h',s2.toks,rfl,rfl,I2,JK,e2,o2,r⟩
end
abbrev SpX:=List Dat->Gs->(Dat->Gs->Prop)->(Value->Gs->Prop)->Prop
def JC(K:PySem.W.Frag)(S:SpX):Sp:=fun vs H Q E=>∃ds G R RX,GOk K H G/\RepL K (hid H G) ds vs/\S ds G R RX/\(∀v H' d G',Ext H G H' G'->GOk K H' G'->Rep K (hid H' G') d v->R d G'->Q v H')/\∀cls H' G',Ext H G H' G'->GOk K H' G'->RX cls G'->E cls none H'
section
variable {P:Program}{w:World}{K:PySem.W.Frag}{mg:Str->Option Value}{base:Heap}
def CXC(P:Program)(w:World):CXT:=fun outer H s E e s'=>∃ea cls H',e=.ref ea/\s'.os=s.os/\AllBare s'.gens/\Fly P w outer H s.heap H' s'.heap ea cls/\Clr s'.heap ea/\E cls none H'
theorem cS{k:Nat}{f:Addr}{fd:FuncData}{ps:List Str}{sp:Sp}(F:FnOk P w K mg base (CXC P w) k f fd ps sp):FnOk P w K mg base (CXV P w) k f fd ps sp:=⟨F.len,fun A outer s H args us vs Q E hr he hb hv hs=>codeAny_mono (F.run A outer s H args us vs Q E hr he hb hv hs) fun r s' hq=>by
  cases r with
  |error er=>obtain⟨ea,cls,H',a,b,c,d,_,e⟩:=hq;exact⟨ea,cls,H',a,b,c,d,e⟩
  |ok fl=>cases fl<;>exact hq⟩
theorem cp{x qual:Str}{st:Stmt}{f:Addr}{fd:FuncData}{N ps:List Str}{k:Nat}{S:SpX}(F:Fun K x qual st f fd)(Sc:FnScope N ps (AF st))(AY:∀ds G R RX,S ds G R RX->ds.length=ps.length)(hb:∀(Aw:Value)(A:Around)(outer:List Env)(s:Shared)(H:Hp)(E:XK)(ds:List Dat)(G:Gs)(R:Dat->Gs->Prop)(RX:Value->Gs->Prop),Room k (A.deeper (envOfC qual (AF st) s.heap.objs.size f Aw))->S ds G R RX →
   Mi (Es CX0 P w K mg base N qual (AF st) f Aw A outer s H E).nox (EO N ds) G (BM st) { nx:=fun _ G'=>R .non G',rt:=R } RX):FnOk P w K mg base (CXC P w) (k+1) f fd ps (JC K S):=by
 obtain⟨oc,od,kV,doc,pm,an,Aw,ct,Tj,rfl,lk,RB⟩:=F.ex;refine VN lk RB Sc (fun vs H Q E h=>?_) (fun A outer s H vs Q E hr h=>?_)
 ·obtain⟨ds,G,R,RX,_,r,hS,_⟩:=h;rw[r.length];exact AY ds G R RX hS
 ·obtain⟨ds,G,R,RX,o,r,hS,k1,k2⟩:=h;refine⟨fun D σ H1=>D={ nx:=fun _ H'=>Q .non H',rt:=Q }/\σ=start N vs/\H1=H,?_,rfl,rfl,rfl⟩;intro AD s1 σ H1 D I hq;obtain⟨rfl,rfl,rfl⟩:=hq;have hw:=hb Aw A outer s H1 E ds G R RX hr hS AD s1 (start N vs) H1 (I.wish fun _ _=>False) (Ib o r);refine wpAny_mono hw (fun fl s2 z=>?_) fun e s2 z=>?_
  ·refine SP.le (SP.unwish (X:=Es (CXC P w) P w K mg base N qual (AF st) f Aw A outer s H1 E) (E:=fun _ _=>False) z) (fun σ' H'=>?_) (fun v H'=>?_) (fun σ' H'=>?_) fun σ' H'=>?_
   ·rintro⟨ρ',G',e',S',q⟩;exact k1 .non H' .non G' e' S'.own rfl q
   ·rintro⟨d,G',e',o',r',q⟩;exact k1 v H' d G' e' o' r' q
   ·rintro⟨_,_,_,_,q⟩;exact q
   ·rintro⟨_,_,_,_,q⟩;exact q
  ·obtain⟨ea,cls,args,σ',H',G',s3,h2,tk,rfl,rfl,I3,hm,ex,go,rx⟩:=z;have J:Inv (Es (CXC P w) P w K mg base N qual (AF st) f Aw A outer s H1 E) AD σ' H' s3:=Inv.unwish (E:=fun _ _=>False) I3;refine WD (X:=Es (CXC P w) P w K mg base N qual (AF st) f Aw A outer s H1 E) J rfl rfl rfl hm fun h' Vl bg=>?_;exact⟨ea,cls,H',rfl,J.os,J.bare,Vl,bg,k2 cls H' G' ex go rx⟩
theorem el{x qual:Str}{st:Stmt}{f:Addr}{fd:FuncData}{N ps:List Str}{k:Nat}{S:SpX}(F:Fun K x qual st f fd)(Sc:FnScope N ps (AF st))(AY:∀ds G R RX,S ds G R RX->ds.length=ps.length)(hb:∀(Aw:Value)(A:Around)(outer:List Env)(s:Shared)(H:Hp)(E:XK)(ds:List Dat)(G:Gs)(R:Dat->Gs->Prop)(RX:Value->Gs->Prop),Room k (A.deeper (envOfC qual (AF st) s.heap.objs.size f Aw))->S ds G R RX →
   Mi (Es CX0 P w K mg base N qual (AF st) f Aw A outer s H E).nox (EO N ds) G (BM st) { nx:=fun _ G'=>R .non G',rt:=R } RX):FnOk P w K mg base (CXV P w) (k+1) f fd ps (JC K S):=cS (cp F Sc AY hb)
end
structure DfX (P:Program) (w:World) (K:PySem.W.Frag) (mg:Str->Option Value) (base:Heap) (x:Str) (ps:List Str) (k:Nat) (S:SpX):Prop where
 ex:∃f fd,FnOk P w K mg base (CXV P w) k f fd ps (JC K S)/\mg x=some (.ref f)/\PySem.W.keepIn K (.ref f)=true/\Binds K fd ps []
section
variable {M:Model}{A:Around}{E:Value->Shared->Prop}
theorem U6{h:Heap}{g:Array GenState}{d:Drawn}{t:Nat}{os:OsState}{e C Dc:Addr}{oe:Obj}{Q:Bool->Shared->Prop}{nm q:Str}{N:Addr}{bs bm:List Value}{hdct:Bool}{sn:List Str}{sub:List Value}{ab:Bool}{col:Option Bool}{dd:Option Addr}{k0 k1 k2 k3 k5:Option Value}{newId:String}{nR q':Str}{N':Addr}{mI iE:List Value}{aJ:Bool}{lZ:List Str}{eZ:List Value}{nL:Bool}{gC:Option Bool}{dU:Option Addr}{oF mQ l0 ny l9:Option Value}{Gj:String}(hC:h.get? C=some (excClassObj nm q C N bs bm hdct sn sub ab col dd k0 k1 k2 k3 k5 newId))(hD:h.get? Dc=some (excClassObj nR q' Dc N' mI iE aJ lZ eZ nL gC dU oF mQ l0 ny l9 Gj))(he:h.get? e=some oe)(Wm:oe.cls=.ref C)(Fi:iE.contains (.type "BaseException")=true)(hq:Q ((Value.ref C::bm).contains (.ref Dc)) ⟨h,g,d,t,os⟩):wpAny M A (excMatches (.ref e) (.ref Dc)) Q E ⟨h,g,d,t,os⟩:=by
 have ij:(Value.ref Dc::iE).contains (.type "BaseException")=true:=by rw[List.contains_cons,Fi,Bool.or_true]
 have f:=tc_notTuple;unfold excMatches;repeat (first|(with_reducible refine wpAny_loadPart_at hD ?_)|(with_reducible refine wpAny_isSubtype_exc hD ?_;rw[ij])|wp_step)
 rw[Wm];refine wpAny_isSubtype_exc hC ?_;cases hb:(Value.ref C::bm).contains (.ref Dc)<;>(rw[hb]at hq;wp_walk;exact hq)
end
def FXP(X:Cx)(AD:List (Addr×Obj))(σ:St)(H:Hp)(G:Gs)(RX:Value->Gs->Prop)(e:Value)(s':Shared):Prop:=∃ea cls s1 H1 H' G',e=.ref ea/\Inv X AD σ H1 s1/\s'.os=s1.os/\AllBare s'.gens/\Fly X.prog X.w X.stack H1 s1.heap H' s'.heap ea cls/\Ext H G H' G'/\GOk X.K H' G'/\RX cls G'
def WEX(X:Cx)(ρ:Rho)(G:Gs)(e:Expr)(Q:Dat->Gs->Prop)(RX:Value->Gs->Prop):Prop:=∀(AD:List (Addr×Obj))(s:Shared)(σ:St)(H:Hp),Inv X AD σ H s->Stt X H σ ρ G->wpAny (model X.prog X.w) X.A (eval e X.env) (EP X AD σ (Po X H G Q)) (FXP X AD σ H G RX) s
def PZ(X:Cx)(ρ:Rho)(G:Gs)(st:List Stmt)(D:DE)(RX:Value->Gs->Prop):Prop:=∀(AD:List (Addr×Obj))(s:Shared)(σ:St)(H:Hp),Inv X AD σ H s->Stt X H σ ρ G->wpAny (model X.prog X.w) X.A (execs st X.env) (SP X AD (Gk X H G D)) (FXP X AD σ H G RX) s
section
variable {X:Cx}{ρ:Rho}{G:Gs}{e:Expr}{es:List Expr}{ds:List Dat}{pos p:Pos}{S:SpX}{k:Nat}{ps:List Str}{x:Str}{Q:Dat->Gs->Prop}{RX:Value->Gs->Prop}{D:DE}{rest:List Stmt}
theorem Ql(hx:X.xe=fun _ _=>False)(F:DfX X.prog X.w X.K X.mg X.base x ps k S)(hr:Room k X.A)(ha:PXs X ρ G (e::es) ds)(hS:S ds G Q RX)(hg:Gl X x:=by rfl)(HJ:(x==("__debug__":Str))=false:=by decide)(he:starEach (e::es) X.env=(false,eval e X.env)::starEach es X.env:=by rfl)(hpl:(backTo pos (starEach es X.env)).any (·.1)=false:=by rfl):WEX X ρ G (.Call (.Name x p) (e::es) [] pos) Q RX:=by
 obtain⟨f,fd,F,hm,hk,hb⟩:=F.ex;intro AD s σ H I S0;refine wpAny_Call_Name_kw (Hc I hg hm ?_ HJ);have h1:=ha pos AD s σ H I S0;rw[hx]at h1;refine PySem.W.callWith_K (h₀:=X.base) I.ok.mod.kin hk (wpAny_mono h1 (fun us s1 ⟨vs,H1,I1,rv,d',G1,e1,o1,rep,q1,q2⟩=>⟨I1.kIn,?_⟩) fun _ _ z=>z.elim) he hpl;subst q1;subst q2;have Ur:JC X.K S vs H1 (Po X H G1 Q) (fun cls dx H'=>∃G',Ext H1 G1 H' G'/\GOk X.K H' G'/\RX cls G'):=⟨d',G1,Q,RX,o1,rep,hS,fun v H' d G' e' o' r' q'=>⟨d,G',e1.trans e',o',r',q'⟩,fun cls H' G' e' o' q'=>⟨G',e',o',q'⟩⟩;have hl:us.length=ps.length:=by rw[<-rv.length];exact F.len _ _ _ _ Ur
 refine wpAny_call (codeAny_mono (F.run X.A X.stack s1 H1 ⟨us,[]⟩ us vs _ _ hr I1.env0 (by have:=hb s1 us I1.kIn (by rw[List.append_nil];exact hl);rw[List.append_nil]at this;exact this) rv Ur) fun r s' hq=>?_);cases r with
 |error er=>
  obtain⟨ea,cls,H',rfl,h3,h4,Vl,G',e',o',q'⟩:=hq;exact⟨ea,cls,s1,H1,H',G',rfl,I1,h3,h4,Vl,e1.trans e',o',q'⟩
 |ok fl=>
  cases fl with
  |ret u=>exact I1.after hq
  |next=>exact False.elim hq
  |brk=>exact False.elim hq
  |cont=>exact False.elim hq
abbrev Cx.mk'(X:Cx)(ea:Addr):Cx:={ X with A:=X.A.mark (some (.ref ea)),calm:=false }
end
section
variable {X:Cx}{AD:List (Addr×Obj)}{σ:St}{H:Hp}{s:Shared}{ea:Addr}
theorem Ks(I:Inv X AD σ H s)(ea:Addr):Inv (Cx.mk' X ea) AD σ H s:=⟨⟨I.ok.mod,I.ok.kind,I.ok.glob,I.ok.blt,I.ok.above,I.ok.inj,I.ok.has,I.ok.cab,fun h=>absurd h Bool.false_ne_true,I.ok.frames,I.ok.stk,I.ok.exf,I.ok.bs,I.ok.bsz,I.ok.noex,I.ok.exfs,I.ok.funs,I.ok.frf⟩,I.os,I.bare,I.base,I.loc,I.cell,I.free,I.freeC,I.pin,I.hok,I.len⟩
end
theorem Vy{K:PySem.W.Frag}{C Dc N:Addr}{nm q:Str}{bs bm:List Value}{hdct:Bool}{sn:List Str}{sub:List Value}{ab:Bool}{col:Option Bool}{dd:Option Addr}{k0 k1 k2 k3 k5:Option Value}{newId:String}(h:K.lookup C=some (excClassObj nm q C N bs bm hdct sn sub ab col dd k0 k1 k2 k3 k5 newId))(u:EI K C Dc=true):(Value.ref C::bm).contains (.ref Dc)=true:=by unfold EI at u;rw[h]at u;exact u
section
variable {X:Cx}{ρ:Rho}{G:Gs}{RX:Value->Gs->Prop}{D:DE}{rest body O9:List Stmt}{b₀:Stmt}{pos np Gv:Pos}{cx:Str}
theorem cJ{AD:List (Addr×Obj)}{σ:St}{H1 H':Hp}{s1 s':Shared}{ea C Dc:Addr}{P7 U9:List Value}{newId Gj Mr jT:String}{name:Option Str}{Q:Flow->Shared->Prop}{E:Value->Shared->Prop}(JN:X.stack=X.env::X.outer)(LH:X.env.frame=some X.env.locals)(I1:Inv X AD σ H1 s1)(Nq:s'.os=s1.os)(L0:AllBare s'.gens)(Vl:Fly X.prog X.w X.stack H1 s1.heap H' s'.heap ea (.ref C))(hC:PySem.W.excIn X.K C P7 newId=true)(hD:PySem.W.excIn X.K Dc U9 Gj=true)(FD:ExcBaseFacts jT Gj Mr U9)(hu:EI X.K C Dc=true)(hm:X.mg cx=some (.ref Dc))(hg:Gl X cx)(HJ:(cx==("__debug__":Str))=false)(k:∀h5,Inv (Cx.mk' X ea) AD σ H' { s' with heap:=h5 }->(∀(A':Around)(E':Value->Shared->Prop)(Q':Unit->Shared->Prop),(∀h6,Inv (Cx.mk' X ea) AD σ H' { s' with heap:=h6 }->(∃oe vs,h6.get? ea=some oe/\oe.cls=.ref C/\oe.data=.fields vs)->H' ea=none->Q' () { s' with heap:=h6 })->wpAny (model X.prog X.w) A' (setFlight (.ref ea) none) Q' E' { s' with heap:=h5 }) →
   codeAny (model X.prog X.w) (X.A.mark (some (.ref ea))) (.handlers (.ref ea) [.ExceptHandler none name (b₀::O9) Gv] X.env) (fun r s₂=>match r with
     |.ok f=>(match name with
      |none=>Q f s₂
      |some n=>wpAny (model X.prog X.w) X.A (do bindName X.env n .none;unbindBehindTheSuite X.env n Gv) (fun _ s₃=>Q f s₃) E s₂)
     |.error y=>cameBackBy (model X.prog X.w) X.A X.env E y s₂) { s' with heap:=h5 }) :
  wpAny (model X.prog X.w) X.A (noteFrame (.ref ea) X.env) (fun _ s₂=>wpAny (model X.prog X.w) X.A (setFlight (.ref ea) none) (fun _ s₃=>wpAny (model X.prog X.w) X.A (handleBy (.ref ea) X.env [.ExceptHandler (some (.Name cx np)) name (b₀::O9) Gv]) Q E s₃) E s₂) E s':=by
 obtain⟨a0,B,fl,hB,c1,c2⟩:=Vl.ex;have N5:=I1.ok.frames;rw[JN]at fl N5;refine wpAny_looks_onW N5 LH fl fun h4 held qr=>wpAny_landsW held fun h5 gw pJ=>?_;have YR:Fly X.prog X.w X.stack H1 s1.heap H' h5 ea (.ref C):=by
  refine Fly.step Vl.un Vl.free hB c1 c2 (outer0:=X.stack) (by rw[JN];exact fl.2.2.1) (fun _ z=>z) (by rw[JN];exact gw) (qr.trans pJ)
 have I5:Inv X AD σ H' { s' with heap:=h5 }:=I1.call' (s':={ s' with heap:=h5 }) Nq YR.un YR.hok L0 (by simp);obtain⟨bm,N,nm,qn,bs,hdct,sn,sub,ab,col,dd,k0,k1,k2,k3,k5,mN,oC,oN,oi,tl,lC⟩:=Jb I1.mod.kin hC;obtain⟨iE,N',nR,sV,mI,aJ,lZ,eZ,nL,gC,dU,oF,mQ,l0,ny,l9,rp,oD,_,_,o6,lD⟩:=Jb I1.mod.kin hD;obtain⟨oe,YH,Xi⟩:=gw.there;refine wpAny_handleBy_cons (codeAny_handlers_test (Hc (X:=Cx.mk' X ea) (Ks I5 ea) hg hm ?_ HJ)) (by intro z;cases z);have hq:=Vy lC hu;refine U6 (I5.bk _ _ oC) (I5.bk _ _ oD) YH Xi (o6.hasType FD.hasBase) ?_;rw[hq];refine k h5 (Ks I5 ea) fun A' E' Q' hQ=>lands_againW (s:={ s' with heap:=h5 }) gw fun h6 nz pT=>?_;have cY:Fly X.prog X.w X.stack H1 s1.heap H' h6 ea (.ref C):=Fly.step YR.un YR.free hB c1 c2 (outer0:=X.stack) (by rw[JN];exact gw.2.2.1) (fun _ z=>z) (by rw[JN];exact nz) pT;have I6:Inv X AD σ H' { s' with heap:=h6 }:=I1.call' (s':={ s' with heap:=h6 }) Nq cY.un cY.hok L0 (by simp);obtain⟨oR,qG,z1,z2,z3,_⟩:=nz.first;exact hQ h6 (Ks I6 ea) ⟨oR,qG,z1,z2,z3⟩ cY.free
end
abbrev Cx.sx(X:Cx)(ea:Addr)(oe:Obj):Cx:={ X with A:=X.A.mark (some (.ref ea)),calm:=false,pn:=(ea,oe)::X.pn,xe:=fun _ _=>False }
section
variable {X:Cx}{AD:List (Addr×Obj)}{σ:St}{H:Hp}{s:Shared}{ea:Addr}{oe:Obj}{vs:Array Value}
theorem cT(I:Inv (Cx.mk' X ea) AD σ H s)(he:s.heap.get? ea=some oe)(hd:oe.data=.fields vs)(hf:H ea=none):Inv (Cx.sx X ea oe) AD σ H s:=by
 refine⟨⟨I.ok.mod,I.ok.kind,I.ok.glob,I.ok.blt,I.ok.above,I.ok.inj,I.ok.has,I.ok.cab,fun h=>absurd h Bool.false_ne_true,I.ok.frames,I.ok.stk,I.ok.exf,I.ok.bs,I.ok.bsz,I.ok.noex,I.ok.exfs,I.ok.funs,I.ok.frf⟩,I.os,I.bare,I.base,I.loc,I.cell,I.free,I.freeC,fun p hp=>?_,I.hok,I.len⟩;rcases List.mem_cons.mp hp with rfl|hp
 ·refine⟨he,hf,fun z=>?_,fun z=>?_,fun v z=>?_⟩
  ·obtain⟨m,⟨o,es,ep,ho,eY,_⟩,_⟩:=I.loc;have z':ea=X.env.locals:=z;rw[z',show s.heap.get? X.env.locals=some o from ho]at he;cases he;rw[eY]at hd;cases hd
  ·obtain⟨_,o,ho,hn⟩:=I.funs.mem z;rw[show s.heap.get? ea=some o from ho]at he;cases he;exact hn _ hd
  ·rw[hd]at z;cases z
 ·exact I.pin p hp
theorem VJ(ok:X.Ok)(I:Inv (Cx.sx X ea oe) AD σ H s){h':Heap}{m':Str->Option Value}{tk:Nat}(hn:h'.Ns X.env.locals m')(sb:Heap.SameBut X.env.locals s.heap h'):Inv X AD (List.replicate X.N.length none) H { s with heap:=h',toks:=tk }:=by
 have kp:∀b o,b≠X.env.locals->s.heap.get? b=some o->h'.get? b=some o:=fun b o hb e=>sb.extBut b o hb e;have Xg:∀b o,X.s₀.heap.get? b=some o->b≠X.env.locals:=fun b o e=>Nat.ne_of_lt (Nat.lt_of_lt_of_le (Heap.lt_size e) ok.above);have hL:H X.env.locals=none:=I.free;refine⟨ok,I.os,I.bare,⟨fun b o e n hb hx=>kp b o (Xg b o e) (I.base.keep b o e n hb hx),fun b o e n hb hx=>?_,fun b o e n hx=>I.base.free b o e n hx,fun b o e hx=>?_,I.base.tups,I.base.frzs,I.base.tbls⟩,⟨m',hn,fun i x v h1 h2=>?_⟩,fun x c e=>?_,hL,I.freeC,fun p hp=>?_,fun b u q=>?_,by simp⟩
 ·obtain⟨sl,e1⟩:=I.base.slot b o e n hb hx;exact⟨sl,kp b _ (Xg b o e) e1⟩
 ·obtain⟨o',e1⟩:=I.base.there b o e hx;exact⟨o',kp b o' (Xg b o e) e1⟩
 ·rw[List.getElem?_replicate]at h2;split at h2<;>cases h2
 ·obtain⟨v,o,ho,hd⟩:=I.cell x c e;exact⟨v,o,kp c o (I.cne x c e) ho,hd⟩
 ·have z:=I.pin p (List.mem_cons_of_mem _ hp);exact⟨kp _ _ z.2.2.1 z.1,z.2⟩
 ·refine(I.hok b u q).stay (fun c o hc r=>kp c o ?_ r) (fun _ r=>r) fun _ _ r=>r;rcases hc with rfl|hc
  ·exact Ab q hL
  ·exact Ab hc hL
end
section
variable {X:Cx}{ρ:Rho}{G:Gs}{RX:Value->Gs->Prop}{D:DE}{rest body O9:List Stmt}{b₀:Stmt}{pos np Gv:Pos}{cx n:Str}
theorem WL(i:Nat){Dc:Addr}{U9:List Value}{Gj Mr jT:String}(JN:X.stack=X.env::X.outer)(LH:X.env.frame=some X.env.locals)(hN:X.N.Nodup)(hb:PZ X ρ G body { D with nx:=fun ρ' G'=>WSs X ρ' G' rest D } RX)(hD:PySem.W.excIn X.K Dc U9 Gj=true)(FD:ExcBaseFacts jT Gj Mr U9)(hm:X.mg cx=some (.ref Dc))(hs:∀cls G',RX cls G'->∃C P7 newId,cls=.ref C/\PySem.W.excIn X.K C P7 newId=true/\EI X.K C Dc=true/\∀ea oe,oe.cls=.ref C->WSs (Cx.sx X ea oe) (ρ.set i (some (.fn ea))) G' (b₀::O9) { nx:=fun _ _=>False,rt:=D.rt })(hn:X.N[i]?=some n:=by rfl)(hl:X.env.kindOf n=some .local:=by rfl)(hg:Gl X cx:=by rfl)(HJ:(cx==("__debug__":Str))=false:=by decide):WSs X ρ G (.Try body [.ExceptHandler (some (.Name cx np)) (some n) (b₀::O9) Gv] [] [] pos::rest) D:=BY fun AD s σ H I S=>by
 refine wpAny_Try_except (wpAny_mono (hb AD s σ H I S) (fun f s1 z=>?_) fun e s' z=>?_)
 ·cases f with
  |next=>exact wpAny_execs_nil z
  |ret v=>exact z
  |brk=>exact z
  |cont=>exact z
 ·obtain⟨ea,cls,s1,H1,H',G',rfl,I1,Nq,L0,Vl,ex,go,rx⟩:=z;obtain⟨C,P7,newId,rfl,hC,hu,hw⟩:=hs cls G' rx;refine cJ JN LH I1 Nq L0 Vl hC hD FD hu hm hg HJ fun h5 I5 land=>?_;refine codeAny_handlers_suite_as (land _ _ _ fun h6 I6 ⟨oe,vs,z1,z2,z3⟩ Ll=>?_);have I7:=cT I6 z1 z3 Ll;refine Jp (X:=Cx.sx X ea oe) I7 hN hn (.inl hl) (v:=.ref ea) rfl (fun s7 I8=>?_) (.inr hl);have S5:=S.ext ex go;have S6:Stt (Cx.sx X ea oe) H' σ ρ G':=⟨S5.env,S5.len,S5.own⟩;have S8:Stt (Cx.sx X ea oe) H' (σ.set i (some (.ref ea))) (ρ.set i (some (.fn ea))) G':=S6.set (show Rep X.K (hid H' G') (.fn ea) (.ref ea) by rw[Rep]);refine wpAny_mono (hw ea oe z2 AD s7 _ H' I8 S8) (fun f s8 z=>?_) fun _ _ z=>z.elim;cases f with
  |next=>obtain⟨_,_,_,_,_,_,_,q⟩:=z;exact q.elim
  |brk=>obtain⟨_,_,_,_,_,_,_,q⟩:=z;exact q.elim
  |cont=>obtain⟨_,_,_,_,_,_,_,q⟩:=z;exact q.elim
  |ret u=>
   obtain⟨v,σ9,H9,I9,rv,d,G9,e9,o9,r9,q9⟩:=z;obtain⟨m,Nk,_⟩:=I9.loc;refine wpAny_nameGoes hl Nk (by rw[I.ok.kind];rfl) fun h' m' TV sb=>?_;exact⟨v,_,H9,VJ I.ok I9 TV sb,rv,d,G9,ex.trans e9,o9,r9,q9⟩
end
section
variable {prog:Program}{w:World}{A:Around}{E:Value->Shared->Prop}{s:Shared}
theorem WU{e C:Addr}:Meets (Builtin.«isinstance» ⟨[.ref e,.ref C],[]⟩) (fun _ R s=>(∃oe,s.heap.get? e=some oe/\oe.cls=.ref C)/\R (.ok (.ret (.bool true))) s):=fun prog w A R s hs=>by
 obtain⟨⟨oe,he,hc⟩,hR⟩:=hs;refine isinstance_outer ?_ (by intro z;cases z);obtain⟨hp,g,d,t,os⟩:=s;repeat (any_goals (first|assumption|(with_reducible refine wpAny_loadPart_at he ?_;rw[hc])|wp_step))
end
theorem UP{e C N:Addr}{T:String}{nm q:Str}{bs bm:List Value}{hdct:Bool}{sn:List Str}{sub:List Value}{ab:Bool}{col:Option Bool}{dd:Option Addr}{k0 k1 k2 k3 k5:Option Value}{newId:String}(dN:typeOf (.type T)=pure (.type "type"))(hT:bm.contains (.type T)=true) :
  Meets (Builtin.«isinstance» ⟨[.ref e,.type T],[]⟩) (fun _ R s=>(∃oe,s.heap.get? e=some oe/\oe.cls=.ref C)/\s.heap.get? C=some (excClassObj nm q C N bs bm hdct sn sub ab col dd k0 k1 k2 k3 k5 newId)/\R (.ok (.ret (.bool true))) s):=fun prog w A R s hs=>by
 obtain⟨⟨oe,he,hc⟩,hC,hR⟩:=hs;have ij:(Value.ref C::bm).contains (.type T)=true:=by rw[List.contains_cons,hT,Bool.or_true]
 refine isinstance_outer ?_ (by intro z;cases z);obtain⟨hp,g,d,t,os⟩:=s;repeat (any_goals (first|assumption|(with_reducible refine wpAny_loadPart_at he ?_;rw[hc])|(with_reducible refine wpAny_isSubtype_exc hC ?_;rw[ij])|wp_step))
theorem LV:typeOf (.type "ValueError")=pure (.type "type"):=by rfl
section
variable {X:Cx}{ρ:Rho}{G:Gs}{ea:Addr}{oe:Obj}{a:Expr}{pos pp p2:Pos}{i:Nat}
theorem Su{C:Addr}(hc:oe.cls=.ref C)(hm:(ea,oe)∈X.pn):Bi X (.builtin "isinstance") (fun xs H Q=>xs=[.ref ea,.ref C]/\Q (.bl true) H):=by intro AD s σ H xs us Q I r h;obtain⟨rfl,q⟩:=h;obtain⟨u,w',rfl,ru,YC⟩:=HL r;cases ru;cases YC;have z:=I.pin (ea,oe) (List.mem_append_left _ hm);exact call_isinstance WU ⟨⟨oe,z.1,hc⟩,⟨.bl true,H,I,rfl,q⟩⟩
theorem UA{C:Addr}{P7:List Value}{newId:String}{T:String}(hc:oe.cls=.ref C)(hm:(ea,oe)∈X.pn)(hC:PySem.W.excIn X.K C P7 newId=true)(hT:P7.contains (.type T)=true)(dN:typeOf (.type T)=pure (.type "type")):Bi X (.builtin "isinstance") (fun xs H Q=>xs=[.ref ea,.ty T]/\Q (.bl true) H):=by intro AD s σ H xs us Q I r h;obtain⟨rfl,q⟩:=h;obtain⟨u,w',rfl,ru,YC⟩:=HL r;cases ru;cases (show w'=Value.type T from YC);have z:=I.pin (ea,oe) (List.mem_append_left _ hm);obtain⟨bm,N,nm,qn,bs,hdct,sn,sub,ab,col,dd,k0,k1,k2,k3,k5,mN,oC,oN,oi,tl,lC⟩:=Jb I.mod.kin hC;exact call_isinstance (UP (C:=C) (N:=N) (nm:=nm) (q:=qn) (bs:=bs) (bm:=bm) (hdct:=hdct) (sn:=sn) (sub:=sub) (ab:=ab) (col:=col) (dd:=dd) (k0:=k0) (k1:=k1) (k2:=k2) (k3:=k3) (k5:=k5) (newId:=newId) dN (tl.hasType hT)) ⟨⟨oe,z.1,hc⟩,I.bk _ _ oC,⟨.bl true,H,I,rfl,q⟩⟩
theorem Yj{C:Addr}{cn:Str}(hc:oe.cls=.ref C)(hm:(ea,oe)∈X.pn)(fR:X.mg "isinstance"=none)(hC:X.mg cn=some (.ref C))(ha:PX X ρ G a (.fn ea))(hg:Gl X "isinstance":=by rfl)(fc:Gl X cn:=by rfl)(HJ:(cn==("__debug__":Str))=false:=by decide)(he:starEach [a,.Name cn p2] X.env=(false,eval a X.env)::starEach [.Name cn p2] X.env:=by rfl):PX X ρ G (.Call (.Name "isinstance" pp) [a,.Name cn p2] [] pos) (.bl true):=Bb (D0 (Su hc hm) hg fR (by decide +kernel) (A7 Av (A7 (RM (v:=.ref C) fc hC rfl HJ) CW) he) (by decide) (by decide) he rfl) fun σ H S=>⟨ρ,G,_,ha,S,fun x H1 ⟨_,_,e1,o1,r1,q1,BZ⟩=>by
  subst q1;subst BZ;rw[Rep]at r1;subst r1;exact⟨rfl,Po.trans e1 (Ba o1 rfl)⟩⟩
theorem Yr{C:Addr}{P7:List Value}{newId:String}(hc:oe.cls=.ref C)(hm:(ea,oe)∈X.pn)(hC:PySem.W.excIn X.K C P7 newId=true)(hT:P7.contains (.type "ValueError")=true)(fR:X.mg "isinstance"=none)(rL:X.mg "ValueError"=none)(ha:PX X ρ G a (.fn ea))(hg:Gl X "isinstance":=by rfl)(fc:Gl X "ValueError":=by rfl)(he:starEach [a,.Name "ValueError" p2] X.env=(false,eval a X.env)::starEach [.Name "ValueError" p2] X.env:=by rfl):PX X ρ G (.Call (.Name "isinstance" pp) [a,.Name "ValueError" p2] [] pos) (.bl true):=Bb (D0 (UA hc hm hC hT LV) hg fR (by decide +kernel) (A7 Av (A7 (RP (v:=.ty "ValueError") fc rL (by decide +kernel) rfl (by decide) (by decide)) CW) he) (by decide) (by decide) he rfl) fun σ H S=>⟨ρ,G,_,ha,S,fun x H1 ⟨_,_,e1,o1,r1,q1,BZ⟩=>by
  subst q1;subst BZ;rw[Rep]at r1;subst r1;exact⟨rfl,Po.trans e1 (Ba o1 rfl)⟩⟩
end
section
open PySem.SeqAt
open PySem.AutoSeq1 (wpAny_loadPart')
open PySem.MeetsSeq PySem.MeetsSeq2 PySem.MeetsSeq3
def gt2(a b c d:Int):Bool:=if a==c then decide (d<b)else decide (c<a)
theorem Qm(l b:Addr)(a1 a2 b1 b2:Int)(t1 t2 u1 u2:Tok)(n n2:Nat)(dd Xl:Option Addr)(sl Sm:Array (Option Value)) :
  Meets (Builtin.«tuple.__gt__» ⟨[.ref l,.ref b],[]⟩)
   (fun A R s=>EqAt A.in1 s (.int a1 t1) (.int b1 u1) (a1==b1)/\EqAt A.in1 s (.int a2 t2) (.int b2 u2) (a2==b2)/\s.heap.get? l=some { cls:=.type "tuple",dict:=dd,data:=.seq #[.int a1 t1,.int a2 t2] n,slots:=sl }/\s.heap.get? b=some { cls:=.type "tuple",dict:=Xl,data:=.seq #[.int b1 u1,.int b2 u2] n2,slots:=Sm } ∧
    R (.ok (.ret (.bool (gt2 a1 a2 b1 b2)))) s):=
 .of_wp fun prog w A R s h=>by
  obtain⟨hp,g,d,tk,os⟩:=s;obtain⟨ko,he2,hl,hb,h⟩:=h;have f2:=AutoSeq1.sub_tuple_tuple;wp_walk using wpAny_loadPart' hl,wpAny_loadPart' hb,wpAny_forIn_list _ (fun rest b s'=>b.1=none/\s'=⟨hp,g,d,tk,os⟩/\(rest=[(.int a1 t1,.int b1 u1),(.int a2 t2,.int b2 u2)]\/(rest=[(.int a2 t2,.int b2 u2)]/\a1=b1)\/(rest=[]/\a1=b1/\a2=b2))) _
  case turn=>
   rintro⟨y,x⟩ rest b s' ⟨Ja,rfl,hz⟩;rcases hz with hz|⟨hz,e1⟩|⟨hz,_⟩
   ·injection hz with YO KH;injection YO with hy hx;subst hy hx KH;refine wpAny_bind (ko prog w _ _ ?_);cases hq:(a1==b1)with
    |true=>
     wp_walk;exact⟨rfl,rfl,.inr (.inl ⟨rfl,by simpa using hq⟩)⟩
    |false=>
     have dC:∀(E:Value->Shared->Prop)(Q:Value->Shared->Prop),Q (.bool (decide (b1<a1))) ⟨hp,g,d,tk,os⟩->wpAny (model prog w) A.in1 (richCompare .Gt (.int a1 t1) (.int b1 u1)) Q E ⟨hp,g,d,tk,os⟩:=fun E Q h=>(PyProof.Rows.gt_int h:wpAny (model prog w) A.in1 (compareOp .Gt (.int a1 t1) (.int b1 u1)) Q E _);have e:gt2 a1 a2 b1 b2=decide (b1<a1):=by unfold gt2;rw[hq];rfl
     rw[e]at h;wp_walk using dC;exact⟨_,rfl,by simpa using h⟩
   ·injection hz with YO KH;injection YO with hy hx;subst hy hx KH;refine wpAny_bind (he2 prog w _ _ ?_);cases hq:(a2==b2)with
    |true=>
     wp_walk;exact⟨rfl,rfl,.inr (.inr ⟨rfl,e1,by simpa using hq⟩)⟩
    |false=>
     have dC:∀(E:Value->Shared->Prop)(Q:Value->Shared->Prop),Q (.bool (decide (b2<a2))) ⟨hp,g,d,tk,os⟩->wpAny (model prog w) A.in1 (richCompare .Gt (.int a2 t2) (.int b2 u2)) Q E ⟨hp,g,d,tk,os⟩:=fun E Q h=>(PyProof.Rows.gt_int h:wpAny (model prog w) A.in1 (compareOp .Gt (.int a2 t2) (.int b2 u2)) Q E _);have e:gt2 a1 a2 b1 b2=decide (b2<a2):=by unfold gt2;rw[e1,beq_self_eq_true];rfl
     rw[e]at h;wp_walk using dC;exact⟨_,rfl,by simpa using h⟩
   ·cases hz
  case fin=>
   rintro⟨sO,rS⟩ s' ⟨Ja,rfl,hz⟩;simp only at Ja;subst Ja;rcases hz with hz|⟨hz,e1⟩|⟨hz,e1,e2⟩
   ·cases hz
   ·cases hz
   ·have e:gt2 a1 a2 b1 b2=false:=by unfold gt2;rw[e1,beq_self_eq_true,e2];simp
    rw[e]at h;wp_walk;exact⟨_,rfl,by simpa[Builtin.Tuple.tupleCompareSizes]using h⟩
  case h=>exact⟨rfl,rfl,.inl rfl⟩
end
section
variable {prog:Program}{w:World}{A:Around}{R:Result->Shared->Prop}{I:Addr}{fp wr:List Addr}{n:Nat}{P:Nat->Value->Prop}{St:Nat->Heap->Prop}{S:Addr}{s:Shared}{c:Nat}
theorem YB{vb:Value}(W:Walks prog w A.in1 I fp wr n P St)(Kj:S∉fp)(JN:St n s.heap)(hS:s.heap.get? S=some { cls:=.type "list",dict:=none,data:=.seq #[vb,vb] c,slots:=#[] })(hR:∀h' tk,(∀b o,b∉wr->b≠S->s.heap.get? b=some o->h'.get? b=some o)->R (.ok (.ret vb)) { s with heap:=h',toks:=tk }):codeAny (model prog w) A (.builtin "min.loop" ⟨[.ref I,.none,.ref S],[]⟩) R s:=by have WY:S∉wr:=fun h=>Kj (W.sub _ h);refine codeAny_builtin F.entry_min_loop ?_;rw[Around.under_plainId F.plain_min_loop _];show wpAny _ A.in1 (seqItems? (.ref S) >>= _) _ _ s;refine wpAny_bind (wpAny_seqItems hS rfl ?_);show wpAny _ A.in1 (tryCatch (pyNext (.ref I)) _ >>= _) _ _ s;refine wpAny_bind (wpAny_tryCatch (W.done s _ _ JN fun h' tk DP=>?_));have JI:=DP S _ WY hS;show wpAny _ A.in1 (updateSeq S (fun _=>#[]) >>= _) _ _ _;refine wpAny_bind ?_;refine wpAny_updateSeq JI rfl (wpAny_bind (wpAny_letGo (wpAny_pure ?_)));exact hR _ tk fun b o az c8 e=>(Heap.get?_update_other _ _ (Ne.symm c8)).trans (DP b o az e)
theorem WO{vb:Value}{j:Nat}(bt:Bool)(W:Walks prog w A.in1 I fp wr n P St)(Kj:S∉fp)(hj:j<n)(JN:St j s.heap)(hS:s.heap.get? S=some { cls:=.type "list",dict:=none,data:=.seq #[vb,vb] c,slots:=#[] })(hk:∀v h' tk,P j v->(∀b o,b∉wr->s.heap.get? b=some o->h'.get? b=some o)->(∀(Q' E':Value->Shared->Prop),Q' (.bool bt) { s with heap:=h',toks:=tk }->wpAny (model prog w) A.in1 (richCompare .Lt v vb) Q' E' { s with heap:=h',toks:=tk }) ∧
   ∀NF c',(∀b o,b≠S->h'.get? b=some o->NF.get? b=some o)->St (j+1) NF->NF.get? S=some { cls:=.type "list",dict:=none,data:=.seq #[if bt then v else vb,if bt then v else vb] c',slots:=#[] } →
    codeAny (model prog w) A (.builtin "min.loop" ⟨[.ref I,.none,.ref S],[]⟩) R { s with heap:=NF,toks:=tk }):codeAny (model prog w) A (.builtin "min.loop" ⟨[.ref I,.none,.ref S],[]⟩) R s:=by
 have WY:S∉wr:=fun h=>Kj (W.sub _ h);have EE:(toString "min"++toString ".loop":String) = "min.loop":=by decide
 refine codeAny_builtin F.entry_min_loop ?_;rw[Around.under_plainId F.plain_min_loop _];show wpAny _ A.in1 (seqItems? (.ref S) >>= _) _ _ s;refine wpAny_bind (wpAny_seqItems hS rfl ?_);show wpAny _ A.in1 (tryCatch (pyNext (.ref I)) _ >>= _) _ _ s;refine wpAny_bind (wpAny_tryCatch (W.item j s _ _ hj JN fun v h' tk hP NS DP=>?_));have JI:=DP S _ WY hS;obtain⟨bG,go⟩:=hk v h' tk hP DP;show wpAny _ A.in1 (tryCatch (holding [v,v] (richCompare .Lt v vb >>= _)) _ >>= _) _ _ _;refine wpAny_bind (wpAny_tryCatch (wpAny_holding (wpAny_bind (bG _ _ ?_))));refine wpAny_bind (wpAny_holding (wpAny_truthy_bool ?_));refine wpAny_bind (wpAny_letGo (wpAny_pure ?_));cases bt with
 |true=>
  simp only[if_true];refine wpAny_bind ?_;refine wpAny_updateSeq JI rfl (wpAny_bind (wpAny_letGo ?_));rw[EE];refine wpAny_pure ⟨plainId_quiet F.plain_min_loop _,go _ _ (fun b o hb e=>(Heap.get?_update_other _ _ (Ne.symm hb)).trans e) (W.frame _ _ _ NS fun b ar o e=>?_) (Heap.get?_update_self _ JI rfl)⟩;exact(Heap.get?_update_other _ _ (fun h:S=b=>Kj (by rw[h];exact ar))).trans e
 |false=>
  simp only[Bool.false_eq_true,if_false];refine wpAny_bind (wpAny_letGo ?_);rw[EE];exact wpAny_pure ⟨plainId_quiet F.plain_min_loop _,go _ c (fun b o _ e=>e) NS JI⟩
theorem Sy(W:Walks prog w A.in1 I fp wr n P St)(Kj:S∉fp)(hn:0<n)(JN:St 0 s.heap)(hS:s.heap.get? S=some { cls:=.type "list",dict:=none,data:=.seq #[] c,slots:=#[] })(hk:∀v NF tk c',P 0 v->(∀b o,b∉wr->b≠S->s.heap.get? b=some o->NF.get? b=some o)->St 1 NF->NF.get? S=some { cls:=.type "list",dict:=none,data:=.seq #[v,v] c',slots:=#[] } →
    codeAny (model prog w) A (.builtin "min.loop" ⟨[.ref I,.none,.ref S],[]⟩) R { s with heap:=NF,toks:=tk }):codeAny (model prog w) A (.builtin "min.loop" ⟨[.ref I,.none,.ref S],[]⟩) R s:=by
 have WY:S∉wr:=fun h=>Kj (W.sub _ h);have EE:(toString "min"++toString ".loop":String) = "min.loop":=by decide
 refine codeAny_builtin F.entry_min_loop ?_;rw[Around.under_plainId F.plain_min_loop _];show wpAny _ A.in1 (seqItems? (.ref S) >>= _) _ _ s;refine wpAny_bind (wpAny_seqItems hS rfl ?_);show wpAny _ A.in1 (tryCatch (pyNext (.ref I)) _ >>= _) _ _ s;refine wpAny_bind (wpAny_tryCatch (W.item 0 s _ _ hn JN fun v h' tk hP NS DP=>?_));have JI:=DP S _ WY hS;show wpAny _ A.in1 (updateSeq S (fun _=>#[v,v]) >>= _) _ _ _;refine wpAny_bind ?_;refine wpAny_updateSeq JI rfl ?_;rw[EE];refine wpAny_pure ⟨plainId_quiet F.plain_min_loop _,hk v _ tk _ hP (fun b o az c8 e=>(Heap.get?_update_other _ _ (Ne.symm c8)).trans (DP b o az e)) (W.frame _ _ _ NS fun b ar o e=>?_) (Heap.get?_update_self _ JI rfl)⟩;exact(Heap.get?_update_other _ _ (fun h:S=b=>Kj (by rw[h];exact ar))).trans e
end
theorem Yx{prog:Program}{w:World}{A:Around}{s:Shared}{x y:Value}{R:Result->Shared->Prop}{T I S:Addr}{h3:Heap}{c:Nat}(hh:A.handled=none)(bt:Bool)(hc:∀(h':Heap)(tk:Nat)(Q' E':Value->Shared->Prop),(∀c o,s.heap.get? c=some o->h'.get? c=some o)->Q' (.bool bt) { s with heap:=h',toks:=tk }->wpAny (model prog w) A.in1 (richCompare .Lt y x) Q' E' { s with heap:=h',toks:=tk })(old:∀b o,s.heap.get? b=some o->h3.get? b=some o)(hT:h3.IsTuple T #[x,y])(hI:h3.IsTupleIter I T 0)(hS:h3.get? S=some { cls:=.type "list",dict:=none,data:=.seq #[] c,slots:=#[] })(nI:s.heap.objs.size<=I)(nS:s.heap.objs.size<=S)(e1:I≠T)(e2:S≠I)(e3:S≠T)(h:∀h' tk,(∀c o,s.heap.get? c=some o->h'.get? c=some o)->R (.ok (.ret (if bt then y else x))) { s with heap:=h',toks:=tk }):codeAny (model prog w) A (.builtin "min.loop" ⟨[.ref I,.none,.ref S],[]⟩) R { s with heap:=h3 }:=by
 have W:=Walks.tuple (prog:=prog) (w:=w) (A:=A.in1) hh I T e1.symm #[x,y];have Kj:S∉[I,T]:=by simp[e2,e3]
 have lt:∀b o,s.heap.get? b=some o->b∉[I]/\b≠S:=fun b o e=>by
  have h1:b<s.heap.objs.size:=Heap.lt_size e;refine⟨fun hm=>?_,fun z=>?_⟩
  ·rw[List.mem_singleton.mp hm]at h1;exact absurd h1 (Nat.not_lt.mpr nI)
  ·rw[z]at h1;exact absurd h1 (Nat.not_lt.mpr nS)
 refine Sy (s:={ s with heap:=h3 }) W Kj (show 0<2 from Nat.zero_lt_succ 1) ⟨hI,hT⟩ hS fun v h4 ju c4 iP k4 Ii W3=>?_;have ev:v=x:=by simpa using iP.symm
 subst ev;refine WO (s:={ s with heap:=h4,toks:=ju }) (j:=1) bt W Kj (show 1<2 from Nat.lt_succ_self 1) Ii W3 fun u h5 dZ lI k5=>?_;have eu:u=y:=by simpa using lI.symm
 subst eu;have Xe:∀b o,s.heap.get? b=some o->h5.get? b=some o:=fun b o e=>k5 b o (lt b o e).1 (k4 b o (lt b o e).1 (lt b o e).2 (old b o e));refine⟨fun Q' E' q=>hc h5 dZ Q' E' Xe q,fun h6 c6 k6 kY jq=>?_⟩;refine YB (s:={ s with heap:=h6,toks:=dZ }) W Kj kY jq fun h7 kA k7=>?_;exact h h7 kA fun b o e=>k7 b o (lt b o e).1 (lt b o e).2 (k6 b o (lt b o e).2 (Xe b o e))
theorem ZT{prog:Program}{w:World}{A:Around}{E:Value->Shared->Prop}{s:Shared}{x y:Value}{Q:Value->Shared->Prop}(hh:A.handled=none)(bt:Bool)(hc:∀(h':Heap)(tk:Nat)(Q' E':Value->Shared->Prop),(∀c o,s.heap.get? c=some o->h'.get? c=some o)->Q' (.bool bt) { s with heap:=h',toks:=tk }->wpAny (model prog w) A.in1 (richCompare .Lt y x) Q' E' { s with heap:=h',toks:=tk })(h:∀h' tk,(∀c o,s.heap.get? c=some o->h'.get? c=some o)->Q (if bt then y else x) { s with heap:=h',toks:=tk }):wpAny (model prog w) A (call (.builtin "min") [x,y]) Q E s:=by
 have EE:(toString "min"++toString ".loop":String) = "min.loop":=by decide
 refine call_function_tree F.kind_min F.plain_min F.entry_min (F.args_min2 _ _) ?_;show wpAny _ A.in1 (Builtin.Builtins.bindParams "min" ["key","default"] 0 ⟨[],[]⟩ >>= _) _ _ s;refine wpAny_bind (wpAny_of_eq (show Builtin.Builtins.bindParams "min" ["key","default"] 0 ⟨[],[]⟩=pure [none,none]from rfl) ?_);show wpAny _ A.in1 (newTuple [x,y] >>= _) _ _ s;refine wpAny_bind (wpAny_newObj_type ?_);have hT:(s.heap.push { cls:=.type "tuple",data:=.seq #[x,y] }).IsTuple s.heap.objs.size #[x,y]:=⟨_,Heap.get?_push_size _ rfl,rfl,0,rfl⟩;refine wpAny_bind (wpAny_pyIter_tuple hT ?_);refine wpAny_bind (wpAny_newObj_type ?_);rw[EE];have z1:(s.heap.push { cls:=.type "tuple",data:=.seq #[x,y] }).objs.size=s.heap.objs.size+1:=Heap.size_push ..;have z2:((s.heap.push { cls:=.type "tuple",data:=.seq #[x,y] }).push { cls:=Value.type "tuple_iterator",data:=Data.fields #[Value.ref s.heap.objs.size,Value.int 0 0] }).objs.size=s.heap.objs.size+1+1:=by rw[Heap.size_push,z1]
 refine wpAny_pure ⟨plainId_quiet F.plain_min_loop _,Yx (s:=s) (c:=0) hh bt hc (fun b o e=>Heap.get?_push_of_some _ (Heap.get?_push_of_some _ (Heap.get?_push_of_some _ e))) ((hT.push _).push _) ⟨_,Heap.get?_push_of_some _ (Heap.get?_push_size _ rfl),rfl,rfl⟩ (Heap.get?_push_size _ rfl) ?_ ?_ ?_ ?_ ?_ h⟩
 ·exact Nat.le_trans (Nat.le_succ _) (Nat.le_of_eq z1.symm)
 ·exact Nat.le_trans (Nat.le_trans (Nat.le_succ _) (Nat.le_succ _)) (Nat.le_of_eq z2.symm)
 ·exact fun z=>Nat.succ_ne_self _ (z1.symm.trans z)
 ·exact fun z=>Nat.succ_ne_self _ ((z2.symm.trans z).trans z1)
 ·exact fun z=>absurd (z2.symm.trans z) (Nat.ne_of_gt (Nat.lt_succ_of_lt (Nat.lt_succ_self _)))
section
variable {prog:Program}{w:World}{A:Around}{R:Result->Shared->Prop}{I:Addr}{fp wr:List Addr}{n:Nat}{P:Nat->Value->Prop}{St:Nat->Heap->Prop}{S:Addr}{s:Shared}{c:Nat}
theorem Ze{vb:Value}(W:Walks prog w A.in1 I fp wr n P St)(Kj:S∉fp)(JN:St n s.heap)(hS:s.heap.get? S=some { cls:=.type "list",dict:=none,data:=.seq #[vb,vb] c,slots:=#[] })(hR:∀h' tk,(∀b o,b∉wr->b≠S->s.heap.get? b=some o->h'.get? b=some o)->R (.ok (.ret vb)) { s with heap:=h',toks:=tk }):codeAny (model prog w) A (.builtin "max.loop" ⟨[.ref I,.none,.ref S],[]⟩) R s:=by have WY:S∉wr:=fun h=>Kj (W.sub _ h);refine codeAny_builtin F.entry_max_loop ?_;rw[Around.under_plainId F.plain_max_loop _];show wpAny _ A.in1 (seqItems? (.ref S) >>= _) _ _ s;refine wpAny_bind (wpAny_seqItems hS rfl ?_);show wpAny _ A.in1 (tryCatch (pyNext (.ref I)) _ >>= _) _ _ s;refine wpAny_bind (wpAny_tryCatch (W.done s _ _ JN fun h' tk DP=>?_));have JI:=DP S _ WY hS;show wpAny _ A.in1 (updateSeq S (fun _=>#[]) >>= _) _ _ _;refine wpAny_bind ?_;refine wpAny_updateSeq JI rfl (wpAny_bind (wpAny_letGo (wpAny_pure ?_)));exact hR _ tk fun b o az c8 e=>(Heap.get?_update_other _ _ (Ne.symm c8)).trans (DP b o az e)
theorem Wb{vb:Value}{j:Nat}(bt:Bool)(W:Walks prog w A.in1 I fp wr n P St)(Kj:S∉fp)(hj:j<n)(JN:St j s.heap)(hS:s.heap.get? S=some { cls:=.type "list",dict:=none,data:=.seq #[vb,vb] c,slots:=#[] })(hk:∀v h' tk,P j v->(∀b o,b∉wr->s.heap.get? b=some o->h'.get? b=some o)->(∀(Q' E':Value->Shared->Prop),Q' (.bool bt) { s with heap:=h',toks:=tk }->wpAny (model prog w) A.in1 (richCompare .Gt v vb) Q' E' { s with heap:=h',toks:=tk }) ∧
   ∀NF c',(∀b o,b≠S->h'.get? b=some o->NF.get? b=some o)->St (j+1) NF->NF.get? S=some { cls:=.type "list",dict:=none,data:=.seq #[if bt then v else vb,if bt then v else vb] c',slots:=#[] } →
    codeAny (model prog w) A (.builtin "max.loop" ⟨[.ref I,.none,.ref S],[]⟩) R { s with heap:=NF,toks:=tk }):codeAny (model prog w) A (.builtin "max.loop" ⟨[.ref I,.none,.ref S],[]⟩) R s:=by
 have WY:S∉wr:=fun h=>Kj (W.sub _ h);have EE:(toString "max"++toString ".loop":String) = "max.loop":=by decide
 refine codeAny_builtin F.entry_max_loop ?_;rw[Around.under_plainId F.plain_max_loop _];show wpAny _ A.in1 (seqItems? (.ref S) >>= _) _ _ s;refine wpAny_bind (wpAny_seqItems hS rfl ?_);show wpAny _ A.in1 (tryCatch (pyNext (.ref I)) _ >>= _) _ _ s;refine wpAny_bind (wpAny_tryCatch (W.item j s _ _ hj JN fun v h' tk hP NS DP=>?_));have JI:=DP S _ WY hS;obtain⟨bG,go⟩:=hk v h' tk hP DP;show wpAny _ A.in1 (tryCatch (holding [v,v] (richCompare .Gt v vb >>= _)) _ >>= _) _ _ _;refine wpAny_bind (wpAny_tryCatch (wpAny_holding (wpAny_bind (bG _ _ ?_))));refine wpAny_bind (wpAny_holding (wpAny_truthy_bool ?_));refine wpAny_bind (wpAny_letGo (wpAny_pure ?_));cases bt with
 |true=>
  simp only[if_true];refine wpAny_bind ?_;refine wpAny_updateSeq JI rfl (wpAny_bind (wpAny_letGo ?_));rw[EE];refine wpAny_pure ⟨plainId_quiet F.plain_max_loop _,go _ _ (fun b o hb e=>(Heap.get?_update_other _ _ (Ne.symm hb)).trans e) (W.frame _ _ _ NS fun b ar o e=>?_) (Heap.get?_update_self _ JI rfl)⟩;exact(Heap.get?_update_other _ _ (fun h:S=b=>Kj (by rw[h];exact ar))).trans e
 |false=>
  simp only[Bool.false_eq_true,if_false];refine wpAny_bind (wpAny_letGo ?_);rw[EE];exact wpAny_pure ⟨plainId_quiet F.plain_max_loop _,go _ c (fun b o _ e=>e) NS JI⟩
theorem Tc(W:Walks prog w A.in1 I fp wr n P St)(Kj:S∉fp)(hn:0<n)(JN:St 0 s.heap)(hS:s.heap.get? S=some { cls:=.type "list",dict:=none,data:=.seq #[] c,slots:=#[] })(hk:∀v NF tk c',P 0 v->(∀b o,b∉wr->b≠S->s.heap.get? b=some o->NF.get? b=some o)->St 1 NF->NF.get? S=some { cls:=.type "list",dict:=none,data:=.seq #[v,v] c',slots:=#[] } →
    codeAny (model prog w) A (.builtin "max.loop" ⟨[.ref I,.none,.ref S],[]⟩) R { s with heap:=NF,toks:=tk }):codeAny (model prog w) A (.builtin "max.loop" ⟨[.ref I,.none,.ref S],[]⟩) R s:=by
 have WY:S∉wr:=fun h=>Kj (W.sub _ h);have EE:(toString "max"++toString ".loop":String) = "max.loop":=by decide
 refine codeAny_builtin F.entry_max_loop ?_;rw[Around.under_plainId F.plain_max_loop _];show wpAny _ A.in1 (seqItems? (.ref S) >>= _) _ _ s;refine wpAny_bind (wpAny_seqItems hS rfl ?_);show wpAny _ A.in1 (tryCatch (pyNext (.ref I)) _ >>= _) _ _ s;refine wpAny_bind (wpAny_tryCatch (W.item 0 s _ _ hn JN fun v h' tk hP NS DP=>?_));have JI:=DP S _ WY hS;show wpAny _ A.in1 (updateSeq S (fun _=>#[v,v]) >>= _) _ _ _;refine wpAny_bind ?_;refine wpAny_updateSeq JI rfl ?_;rw[EE];refine wpAny_pure ⟨plainId_quiet F.plain_max_loop _,hk v _ tk _ hP (fun b o az c8 e=>(Heap.get?_update_other _ _ (Ne.symm c8)).trans (DP b o az e)) (W.frame _ _ _ NS fun b ar o e=>?_) (Heap.get?_update_self _ JI rfl)⟩;exact(Heap.get?_update_other _ _ (fun h:S=b=>Kj (by rw[h];exact ar))).trans e
end
theorem ZW{prog:Program}{w:World}{A:Around}{s:Shared}{x y:Value}{R:Result->Shared->Prop}{T I S:Addr}{h3:Heap}{c:Nat}(hh:A.handled=none)(bt:Bool)(hc:∀(h':Heap)(tk:Nat)(Q' E':Value->Shared->Prop),(∀c o,s.heap.get? c=some o->h'.get? c=some o)->Q' (.bool bt) { s with heap:=h',toks:=tk }->wpAny (model prog w) A.in1 (richCompare .Gt y x) Q' E' { s with heap:=h',toks:=tk })(old:∀b o,s.heap.get? b=some o->h3.get? b=some o)(hT:h3.IsTuple T #[x,y])(hI:h3.IsTupleIter I T 0)(hS:h3.get? S=some { cls:=.type "list",dict:=none,data:=.seq #[] c,slots:=#[] })(nI:s.heap.objs.size<=I)(nS:s.heap.objs.size<=S)(e1:I≠T)(e2:S≠I)(e3:S≠T)(h:∀h' tk,(∀c o,s.heap.get? c=some o->h'.get? c=some o)->R (.ok (.ret (if bt then y else x))) { s with heap:=h',toks:=tk }):codeAny (model prog w) A (.builtin "max.loop" ⟨[.ref I,.none,.ref S],[]⟩) R { s with heap:=h3 }:=by
 have W:=Walks.tuple (prog:=prog) (w:=w) (A:=A.in1) hh I T e1.symm #[x,y];have Kj:S∉[I,T]:=by simp[e2,e3]
 have lt:∀b o,s.heap.get? b=some o->b∉[I]/\b≠S:=fun b o e=>by
  have h1:b<s.heap.objs.size:=Heap.lt_size e;refine⟨fun hm=>?_,fun z=>?_⟩
  ·rw[List.mem_singleton.mp hm]at h1;exact absurd h1 (Nat.not_lt.mpr nI)
  ·rw[z]at h1;exact absurd h1 (Nat.not_lt.mpr nS)
 refine Tc (s:={ s with heap:=h3 }) W Kj (show 0<2 from Nat.zero_lt_succ 1) ⟨hI,hT⟩ hS fun v h4 ju c4 iP k4 Ii W3=>?_;have ev:v=x:=by simpa using iP.symm
 subst ev;refine Wb (s:={ s with heap:=h4,toks:=ju }) (j:=1) bt W Kj (show 1<2 from Nat.lt_succ_self 1) Ii W3 fun u h5 dZ lI k5=>?_;have eu:u=y:=by simpa using lI.symm
 subst eu;have Xe:∀b o,s.heap.get? b=some o->h5.get? b=some o:=fun b o e=>k5 b o (lt b o e).1 (k4 b o (lt b o e).1 (lt b o e).2 (old b o e));refine⟨fun Q' E' q=>hc h5 dZ Q' E' Xe q,fun h6 c6 k6 kY jq=>?_⟩;refine Ze (s:={ s with heap:=h6,toks:=dZ }) W Kj kY jq fun h7 kA k7=>?_;exact h h7 kA fun b o e=>k7 b o (lt b o e).1 (lt b o e).2 (k6 b o (lt b o e).2 (Xe b o e))
theorem ZA{prog:Program}{w:World}{A:Around}{E:Value->Shared->Prop}{s:Shared}{x y:Value}{Q:Value->Shared->Prop}(hh:A.handled=none)(bt:Bool)(hc:∀(h':Heap)(tk:Nat)(Q' E':Value->Shared->Prop),(∀c o,s.heap.get? c=some o->h'.get? c=some o)->Q' (.bool bt) { s with heap:=h',toks:=tk }->wpAny (model prog w) A.in1 (richCompare .Gt y x) Q' E' { s with heap:=h',toks:=tk })(h:∀h' tk,(∀c o,s.heap.get? c=some o->h'.get? c=some o)->Q (if bt then y else x) { s with heap:=h',toks:=tk }):wpAny (model prog w) A (call (.builtin "max") [x,y]) Q E s:=by
 have EE:(toString "max"++toString ".loop":String) = "max.loop":=by decide
 refine call_function_tree F.kind_max F.plain_max F.entry_max (F.args_max2 _ _) ?_;show wpAny _ A.in1 (Builtin.Builtins.bindParams "max" ["key","default"] 0 ⟨[],[]⟩ >>= _) _ _ s;refine wpAny_bind (wpAny_of_eq (show Builtin.Builtins.bindParams "max" ["key","default"] 0 ⟨[],[]⟩=pure [none,none]from rfl) ?_);show wpAny _ A.in1 (newTuple [x,y] >>= _) _ _ s;refine wpAny_bind (wpAny_newObj_type ?_);have hT:(s.heap.push { cls:=.type "tuple",data:=.seq #[x,y] }).IsTuple s.heap.objs.size #[x,y]:=⟨_,Heap.get?_push_size _ rfl,rfl,0,rfl⟩;refine wpAny_bind (wpAny_pyIter_tuple hT ?_);refine wpAny_bind (wpAny_newObj_type ?_);rw[EE];have z1:(s.heap.push { cls:=.type "tuple",data:=.seq #[x,y] }).objs.size=s.heap.objs.size+1:=Heap.size_push ..;have z2:((s.heap.push { cls:=.type "tuple",data:=.seq #[x,y] }).push { cls:=Value.type "tuple_iterator",data:=Data.fields #[Value.ref s.heap.objs.size,Value.int 0 0] }).objs.size=s.heap.objs.size+1+1:=by rw[Heap.size_push,z1]
 refine wpAny_pure ⟨plainId_quiet F.plain_max_loop _,ZW (s:=s) (c:=0) hh bt hc (fun b o e=>Heap.get?_push_of_some _ (Heap.get?_push_of_some _ (Heap.get?_push_of_some _ e))) ((hT.push _).push _) ⟨_,Heap.get?_push_of_some _ (Heap.get?_push_size _ rfl),rfl,rfl⟩ (Heap.get?_push_size _ rfl) ?_ ?_ ?_ ?_ ?_ h⟩
 ·exact Nat.le_trans (Nat.le_succ _) (Nat.le_of_eq z1.symm)
 ·exact Nat.le_trans (Nat.le_trans (Nat.le_succ _) (Nat.le_succ _)) (Nat.le_of_eq z2.symm)
 ·exact fun z=>Nat.succ_ne_self _ (z1.symm.trans z)
 ·exact fun z=>Nat.succ_ne_self _ ((z2.symm.trans z).trans z1)
 ·exact fun z=>absurd (z2.symm.trans z) (Nat.ne_of_gt (Nat.lt_succ_of_lt (Nat.lt_succ_self _)))
instance (p q:Sq):Decidable (AZ p q):=by unfold AZ;exact inferInstance
def El(x y:Sq):Sq:=if AZ y x then y else x
def Em(x y:Sq):Sq:=if AZ x y then y else x
theorem bK(x y:Sq):gt2 x.1 x.2 y.1 y.2=decide (AZ y x):=by
 rw[Bool.eq_iff_iff,decide_eq_true_eq];unfold gt2;split
 ·rename_i h
  have:=eq_of_beq h
  rw[decide_eq_true_eq];unfold AZ;lia
 ·rename_i h;have:¬x.1=y.1:=fun z=>h (by rw[z];exact beq_self_eq_true _);rw[decide_eq_true_eq];unfold AZ;lia
theorem Zc{s:Shared}{A:Around}{x y:Sq}{u v:Value}(hx:AtH s.heap (sq x) u)(hy:AtH s.heap (sq y) v)(hu:A.units+9<cLine)(prog:Program)(w:World)(E Q:Value->Shared->Prop)(q:Q (.bool (decide (AZ y x))) s):wpAny (model prog w) A (richCompare .Gt u v) Q E s:=by
 rw[<-bK]at q;unfold sq at hx hy;rw[AtH]at hx hy;obtain⟨a,is,rfl,ti,rl⟩:=hx;obtain⟨b,js,rfl,tj,rm⟩:=hy;have e1:∃t1 t2,is=[.int x.1 t1,.int x.2 t2]:=by
  simp only[AtL,AtH]at rl;obtain⟨v1,r1,rfl,⟨t1,rfl⟩,v2,r2,rfl,⟨t2,rfl⟩,rfl⟩:=rl;exact⟨t1,t2,rfl⟩
 have e2:∃t1 t2,js=[.int y.1 t1,.int y.2 t2]:=by
  simp only[AtL,AtH]at rm;obtain⟨v1,r1,rfl,⟨t1,rfl⟩,v2,r2,rfl,⟨t2,rfl⟩,rfl⟩:=rm;exact⟨t1,t2,rfl⟩
 obtain⟨t1,t2,rfl⟩:=e1;obtain⟨u1,u2,rfl⟩:=e2;obtain⟨⟨cls,dd,data,sl⟩,Ls,hc,n1,hd⟩:=id ti;obtain⟨⟨lQ,Xl,data2,Sm⟩,Ub,cq,n2,hd2⟩:=id tj;simp only at hc hd cq hd2;subst hc hd cq hd2;have Lj:A.in1.units+0<cLine:=by show A.units+1+0<cLine;lia
 have q1:=(FZ (A:=A.in1) (s:=s) 0 (d:=.int x.1) (e:=.int y.1) rfl rfl (by rw[AtH];exact⟨t1,rfl⟩) (by rw[AtH];exact⟨u1,rfl⟩) Lj).1;have q2:=(FZ (A:=A.in1) (s:=s) 0 (d:=.int x.2) (e:=.int y.2) rfl rfl (by rw[AtH];exact⟨t2,rfl⟩) (by rw[AtH];exact⟨u2,rfl⟩) Lj).1;simp only[eqD]at q1 q2;exact richCompare_meets_room (op:=.Gt) ⟨_,Ls,rfl⟩ ⟨_,Ub,rfl⟩ PySem.F.slot_tuple_gt PySem.F.entry_tuple_gt (PySem.F.args_tuple_gt_2 _ _) (Qm a b x.1 x.2 y.1 y.2 t1 t2 u1 u2 n1 n2 dd Xl sl Sm)
  ⟨q1,q2,Ls,Ub,⟨(fun x=>nomatch x),q⟩⟩ (by lia)
section
variable {X:Cx}{ρ:Rho}{G:Gs}{e a b c:Expr}{d d1 d2:Dat}{l:List Dat}{pos:Pos}{x y:Sq}
theorem Q2(hc:X.calm=true)(hu:X.A.units+20<cLine)(x y:Sq):Bi X (.builtin "min") (fun xs H Q=>∃u v,xs=[u,v]/\Rep X.K H (sq x) u/\Rep X.K H (sq y) v/\Q (if decide (AZ y x)then v else u) H):=by
 intro AD s σ H xs us Q I r h;obtain⟨u,v,rfl,hx,hy,q⟩:=h;obtain⟨a,b,rfl,ra,rb⟩:=HL r;refine ZT (I.ok.hd hc) (decide (AZ y x)) (fun h' tk Q' E' k q'=>?_) (fun h' tk k=>⟨_,H,I.kept k,?_,q⟩)
 ·have I':=I.kept (t':=tk) k
  have:=KW (A:=X.A.in1) (s:={ s with heap:=h',toks:=tk }) true 9 (d:=sq y) (e:=sq x) rfl (Am y 8) (Am x 8) (hy.at I' (Am y 8) rb) (hx.at I' (Am x 8) ra) (by show X.A.units+1+9<cLine;lia) X.prog X.w E' Q'
  rw[XO]at this;exact this q'
 ·cases decide (AZ y x)with
  |true=>exact rb
  |false=>exact ra
theorem Qy(hc:X.calm=true)(hu:X.A.units+20<cLine)(x y:Sq):Bi X (.builtin "max") (fun xs H Q=>∃u v,xs=[u,v]/\Rep X.K H (sq x) u/\Rep X.K H (sq y) v/\Q (if decide (AZ x y)then v else u) H):=by
 intro AD s σ H xs us Q I r h;obtain⟨u,v,rfl,hx,hy,q⟩:=h;obtain⟨a,b,rfl,ra,rb⟩:=HL r;refine ZA (I.ok.hd hc) (decide (AZ x y)) (fun h' tk Q' E' k q'=>?_) (fun h' tk k=>⟨_,H,I.kept k,?_,q⟩)
 ·have I':=I.kept (t':=tk) k;exact Zc (A:=X.A.in1) (s:={ s with heap:=h',toks:=tk }) (hy.at I' (Am y 8) rb) (hx.at I' (Am x 8) ra) (by show X.A.units+1+9<cLine;lia) X.prog X.w E' Q' q'
 ·cases decide (AZ x y)with
  |true=>exact rb
  |false=>exact ra
theorem Vz{pp:Pos}(hc:X.calm=true)(hu:X.A.units+20<cLine)(hm:X.mg "min"=none)(ha:PX X ρ G a (sq x))(hb:PX X ρ G b (sq y))(hg:Gl X "min":=by rfl)(he:starEach [a,b] X.env=(false,eval a X.env)::starEach [b] X.env:=by rfl)(he2:starEach [b] X.env=(false,eval b X.env)::starEach [] X.env:=by rfl)(hpl:(backTo pos (starEach [b] X.env)).any (·.1)=false:=by rfl):PX X ρ G (.Call (.Name "min" pp) [a,b] [] pos) (sq (El x y)):=IF (Q2 hc hu x y) hg hm (by decide +kernel) ha hb (fun H u v Q o rx ry k=>by
  refine⟨u,v,rfl,rx.same AJ,ry.same AJ,k _ _ (Ba o ?_)⟩;unfold El;by_cases h:AZ y x
  ·rw[if_pos h,if_pos (decide_eq_true h)];exact ry
  ·rw[if_neg h,if_neg (by simpa using h)];exact rx) (he:=he) (he2:=he2) (hpl:=hpl)
theorem U3{pp:Pos}(hc:X.calm=true)(hu:X.A.units+20<cLine)(hm:X.mg "max"=none)(ha:PX X ρ G a (sq x))(hb:PX X ρ G b (sq y))(hg:Gl X "max":=by rfl)(he:starEach [a,b] X.env=(false,eval a X.env)::starEach [b] X.env:=by rfl)(he2:starEach [b] X.env=(false,eval b X.env)::starEach [] X.env:=by rfl)(hpl:(backTo pos (starEach [b] X.env)).any (·.1)=false:=by rfl):PX X ρ G (.Call (.Name "max" pp) [a,b] [] pos) (sq (Em x y)):=IF (Qy hc hu x y) hg hm (by decide +kernel) ha hb (fun H u v Q o rx ry k=>by
  refine⟨u,v,rfl,rx.same AJ,ry.same AJ,k _ _ (Ba o ?_)⟩;unfold Em;by_cases h:AZ x y
  ·rw[if_pos h,if_pos (decide_eq_true h)];exact ry
  ·rw[if_neg h,if_neg (by simpa using h)];exact rx) (he:=he) (he2:=he2) (hpl:=hpl)
theorem Lv:∀(bs:List Bool),((List.range bs.length).all fun i=>bs.getD i true)=bs.all id
 |[]=>rfl
 |b::bs=>by
  rw[List.length_cons,List.range_succ_eq_map,List.all_cons,List.all_map,List.all_cons,<-Lv bs];rfl
theorem TN(hc:X.calm=true):Bi X (.builtin "all") (fun xs H Q=>∃(p:Addr)(bs:List Bool),xs=[.ref p]/\SqL X.K H p (bs.map V.bl)/\Q (.bl (bs.all id)) H):=by
 intro AD s σ H xs us Q I r h;obtain⟨p,bs,rfl,hq,q⟩:=h;obtain⟨u,rfl,rx⟩:=Fp r;cases rx;obtain⟨AO,rv,pl,hz⟩:=I.list hq;have hl:=pl.isList;have Ar:=Heap.lt_size (hl.choose_spec.1);have ne:p≠s.heap.objs.size:=Nat.ne_of_lt Ar;refine call_all_walk (wpAny_pyIter_list hl ?_);refine⟨_,_,_,_,_,_,fun i=>bs.getD i true,rfl,Walks.list (A:=X.A.in1) (I.ok.hd hc) _ p ne AO.toArray,⟨⟨_,Heap.get?_push_size _ rfl,rfl,rfl⟩,hl.push _⟩,?_,fun h' tk hk=>?_⟩
 ·intro i v s' Q' E' hP hQ;have h1:AO[i]?=some v:=by simpa using hP
  have hi:i<AO.length:=(List.getElem?_eq_some_iff.mp h1).1;have Tx:=rv.length;rw[List.length_map]at Tx;obtain⟨x,hx⟩:∃x,bs[i]?=some x:=⟨bs[i]'(by lia),List.getElem?_eq_getElem (by lia)⟩;have h2:(bs.map V.bl)[i]?=some (V.bl x):=by rw[List.getElem?_map,hx];rfl
  obtain⟨v',g1,g2⟩:=rv.get h2;rw[h1]at g1;cases g1;cases g2;have hQ:Q' (bs.getD i true) s':=hQ;rw[List.getD_eq_getElem?_getD,hx]at hQ;exact wpAny_truthy_bool hQ
 ·have hn:AO.toArray.size=bs.length:=by have:=rv.length;rw[List.length_map]at this;rw[List.size_toArray,<-this]
  rw[hn,Lv];refine⟨.bl _,H,I.kept (fun b o e=>hk b o (fun hm=>?_) (Heap.get?_push_of_some _ e)),rfl,q⟩;have h1:=Heap.lt_size e;rw[List.mem_singleton.mp hm]at h1;exact Nat.lt_irrefl _ h1
theorem R1{K:PySem.W.Frag}{H:Hp}:∀{bs:List Bool}{vs:List V},RepL K H (bs.map .bl) vs->vs=bs.map V.bl
 |[],vs,r=>by
  have:=r.length
  exact List.eq_nil_of_length_eq_zero (by simpa using this)
 |b::bs,vs,r=>by
  rw[List.map_cons,RepL]at r;obtain⟨v,r',rfl,r1,r2⟩:=r;rw[Rep]at r1;rw[r1,R1 r2];rfl
theorem Ws{bs:List Bool}{pp:Pos}(hc:X.calm=true)(hm:X.mg "all"=none)(ha:PX X ρ G a (.lst (bs.map .bl)))(hg:Gl X "all":=by rfl)(he:starEach [a] X.env=(false,eval a X.env)::starEach [] X.env:=by rfl):PX X ρ G (.Call (.Name "all" pp) [a] [] pos) (.bl (bs.all id)):=Co (TN hc) hg hm (by decide +kernel) ha (fun H x Q o r k=>by
  rw[Rep]at r;obtain⟨q,vs,e,h1,r1⟩:=r;exact⟨q,bs,by rw[e],by rw[<-R1 r1];exact SqL.of (AJ _ _ h1),k _ _ (Ba o rfl)⟩) (he:=he)
end
theorem Ri{F:List Sq}{l:Lay}(nd:F.Nodup)(I:IsLay F l){s t:ED}(hs:s∈l)(ht:t∈l){x:Sq}(h1:x=s.1\/x=s.2)(h2:x=t.1\/x=t.2):s=t:=by
 have n1:(Cn l).Nodup:=I.pm.nodup_iff.mpr nd;have pw:=VG n1;by_cases e:s=t
 ·exact e
 ·exfalso;have key:s.1≠t.1/\s.1≠t.2/\s.2≠t.1/\s.2≠t.2:=by
   rw[List.pairwise_iff_getElem]at pw;obtain⟨i,hi,rfl⟩:=List.mem_iff_getElem.mp hs;obtain⟨j,hj,rfl⟩:=List.mem_iff_getElem.mp ht;rcases Nat.lt_trichotomy i j with h|h|h
   ·exact pw i j hi hj h
   ·subst h;exact absurd rfl e
   ·have z:=pw j i hj hi h;exact⟨z.1.symm,z.2.2.1.symm,z.2.1.symm,z.2.2.2.symm⟩
  rcases h1 with rfl|rfl<;>rcases h2 with h|h
  ·exact key.1 h
  ·exact key.2.1 h
  ·exact key.2.2.1 h
  ·exact key.2.2.2 h
theorem Xz{F:List Sq}{l:Lay}(I:IsLay F l){s:ED}(hs:s∈l):s.1∈F/\s.2∈F:=⟨I.pm.mem_iff.mp (Fx.mpr ⟨s,hs,.inl rfl⟩),I.pm.mem_iff.mp (Fx.mpr ⟨s,hs,.inr rfl⟩)⟩
end TF
namespace TF
section
def sgn(x:Sq):Int:=if (x.1+x.2)%2=0 then 1 else -1
def CP(H V:Sq->Int)(x:Sq):Int:=V x+H (x.1+1,x.2)-V (x.1,x.2+1)-H x
def A9(x:Sq):Prop:=-1<=x.1/\x.1<=8/\-1<=x.2/\x.2<=8
def TX(f:Int->Int)(a:Int):Nat->Int
 |0=>0
 |n+1=>TX f a n+f (a+n)
def pot(H V:Sq->Int)(x:Sq):Int:=TX (fun j=>H (-1,j)) (-1) (x.2+1).toNat+TX (fun i=>V (i,x.2)) (-1) (x.1+1).toNat
theorem Xa(H V:Sq->Int){r c:Int}(hr:-1<=r):pot H V (r+1,c)=pot H V (r,c)+V (r,c):=by
 unfold pot;have e:(r+1+1).toNat=(r+1).toNat+1:=by lia
 have e2:(-1:Int)+((r+1).toNat:Int)=r:=by lia
 simp only[e,TX,e2];lia
theorem bw(H V:Sq->Int){c:Int}(hc:-1<=c):pot H V (-1,c+1)=pot H V (-1,c)+H (-1,c):=by
 unfold pot;have e:(c+1+1).toNat=(c+1).toNat+1:=by lia
 have e2:(-1:Int)+((c+1).toNat:Int)=c:=by lia
 simp only[e,TX,e2,show((-1:Int)+1).toNat=0 from rfl];lia
theorem Wg(H V:Sq->Int)(h0:∀x,A9 x->CP H V x=0){c:Int}(hc:-1<=c/\c<=8):∀n:Nat,n<=10->pot H V (-1+n,c+1)=pot H V (-1+n,c)+H (-1+n,c)
 |0,_=>by
  have:=bw H V hc.1
  simpa using this
 |n+1,hn=>by
  have ih:=Wg H V h0 hc n (by lia);have c0:=h0 (-1+n,c) ⟨by simp only;lia,by simp only;lia,by simp only;lia,by simp only;lia⟩;unfold CP at c0;simp only at c0;have v1:=Xa H V (r:=-1+n) (c:=c+1) (by lia);have v2:=Xa H V (r:=-1+n) (c:=c) (by lia);rw[show(-1+((n+1:Nat):Int))=-1+(n:Int)+1 by lia];lia
theorem gL(H V:Sq->Int)(h0:∀x,A9 x->CP H V x=0){r c:Int}(hr:-1<=r/\r<=9)(hc:-1<=c/\c<=8):pot H V (r,c+1)=pot H V (r,c)+H (r,c):=by
 have:=Wg H V h0 hc (r+1).toNat (by lia)
 rw[show(-1+((r+1).toNat:Int))=r by lia]at this;exact this
structure Off (F:List Sq) (H V:Sq->Int):Prop where
 v:∀x,(x∈F\/(x.1,x.2-1)∈F)->V x=0
 h:∀x,(x∈F\/(x.1-1,x.2)∈F)->H x=0
def Fix(F:List Sq)(x:Sq):Prop:=∃H V,Off F H V/\∀y,A9 y->CP H V y=if y=x then 1 else 0
inductive Bare (F:List Sq):Sq->Prop
 |base:Bare F (-1,-1)
 |step {x y:Sq}:Bare F x->y∈nbM x->A9 y->y∉F->Bare F y
theorem Bare.out{F:List Sq}(h0:(-1,-1)∉F){x:Sq}(h:Bare F x):x∉F/\A9 x:=by
 cases h with
 |base=>exact⟨h0,by unfold A9;simp⟩
 |step _ _ h1 h2=>exact⟨h2,h1⟩
theorem Ve(H V:Sq->Int)(s:Sq)(k:Int)(z:Sq):CP (fun z=>H z+if z=s then k else 0) V z=CP H V z+(if (z.1+1,z.2)=s then k else 0)-(if z=s then k else 0):=by unfold CP;simp only;generalize (if (z.1+1,z.2)=s then k else 0)=u;generalize (if z=s then k else 0)=v;lia
theorem RA(H V:Sq->Int)(s:Sq)(k:Int)(z:Sq):CP H (fun z=>V z+if z=s then k else 0) z=CP H V z+(if z=s then k else 0)-(if (z.1,z.2+1)=s then k else 0):=by unfold CP;simp only;generalize (if (z.1,z.2+1)=s then k else 0)=u;generalize (if z=s then k else 0)=v;lia
theorem aC{p q:Prop}[Decidable p][Decidable q]{k:Int}(h:p↔q):(if p then k else 0)=if q then k else 0:=by
 by_cases hp:p
 ·rw[if_pos hp,if_pos (h.mp hp)]
 ·rw[if_neg hp,if_neg fun z=>hp (h.mpr z)]
theorem Z8(z:Sq)(r c k:Int):(if (z.1+1,z.2)=(r,c)then k else 0)=if z=(r-1,c)then k else 0:=aC ⟨fun h=>by
 have h1:z.1+1=r:=congrArg Prod.fst h;have h2:z.2=c:=congrArg Prod.snd h;exact Prod.ext (show z.1=r-1 by lia) h2,fun h=>by subst h;simp⟩
theorem VS(z:Sq)(r c k:Int):(if (z.1,z.2+1)=(r,c)then k else 0)=if z=(r,c-1)then k else 0:=aC ⟨fun h=>by
 have h1:z.1=r:=congrArg Prod.fst h;have h2:z.2+1=c:=congrArg Prod.snd h;exact Prod.ext h1 (show z.2=c-1 by lia),fun h=>by subst h;simp⟩
theorem Jg(p:Prop)[Decidable p]:(if p then(-1:Int)else 0)=-(if p then 1 else 0):=by split<;>rfl
theorem YY{F:List Sq}(hF:∀x∈F,0<=x.1/\0<=x.2){x:Sq}(h:Bare F x):Fix F x:=by
 have h0:(-1,-1)∉F:=fun h=>by have:=(hF _ h).1;simp at this
 have out:∀{z s:Sq}{k:Int},¬z=s->(if z=s then k else 0)=0:=fun h=>if_neg h
 induction h with
 |base=>
  refine⟨fun _=>0,fun z=>0+if z=(-1,-1)then 1 else 0,⟨fun z hz=>?_,fun _ _=>rfl⟩,fun y hy=>?_⟩
  ·refine(Int.zero_add _).trans (if_neg fun e=>?_);subst e;rcases hz with hz|hz
   ·exact h0 hz
   ·have:=(hF _ hz).1;simp at this
  ·rw[RA (fun _=>0) (fun _=>0),VS,out (s:=(-1,-1-1)) fun e=>by have:=hy.2.2.1;rw[e]at this;simp at this];unfold CP;simp
 |step hx hn hb Wh ih=>
  rename_i x y;obtain⟨H,V,off,hc⟩:=ih;have xo:=hx.out h0;obtain⟨r,c⟩:=x;simp only[nbM,List.mem_cons,List.not_mem_nil,or_false]at hn;rcases hn with rfl|rfl|rfl|rfl
  ·refine⟨fun z=>H z+if z=(r,c)then 1 else 0,V,⟨off.v,fun z hz=>?_⟩,fun z hz=>?_⟩
   ·rw[off.h z hz,out];rfl;rintro rfl;exact hz.elim xo.1 Wh
   ·rw[Ve,hc z hz,Z8];lia
  ·refine⟨H,fun z=>V z+if z=(r,c)then -1 else 0,⟨fun z hz=>?_,off.h⟩,fun z hz=>?_⟩
   ·rw[off.v z hz,out];rfl;rintro rfl;exact hz.elim xo.1 Wh
   ·rw[RA,hc z hz,VS,Jg,Jg];lia
  ·refine⟨H,fun z=>V z+if z=(r,c+1)then 1 else 0,⟨fun z hz=>?_,off.h⟩,fun z hz=>?_⟩
   ·rw[off.v z hz,out];rfl;rintro rfl;refine hz.elim Wh fun h=>xo.1 ?_;simpa using h
   ·rw[RA,hc z hz,VS,Int.add_sub_cancel];lia
  ·refine⟨fun z=>H z+if z=(r+1,c)then -1 else 0,V,⟨off.v,fun z hz=>?_⟩,fun z hz=>?_⟩
   ·rw[off.h z hz,out];rfl;rintro rfl;refine hz.elim Wh fun h=>xo.1 ?_;simpa using h
   ·rw[Ve,hc z hz,Z8,Jg,Jg,Int.add_sub_cancel];lia
theorem Rf{F:List Sq}(k:Sq->Int):∀{L:List Sq},L.Nodup->(∀x∈L,Fix F x)->∃H V,Off F H V/\∀y,A9 y->CP H V y=if y∈L then k y else 0
 |[],_,_=>⟨fun _=>0,fun _=>0,⟨fun _ _=>rfl,fun _ _=>rfl⟩,fun y _=>by simp[CP]⟩
 |a::L,nd,h=>by
  obtain⟨n1,n2⟩:=List.nodup_cons.mp nd;obtain⟨H,V,off,hc⟩:=Rf k n2 fun x hx=>h x (List.mem_cons_of_mem _ hx);obtain⟨H',V',gK,Ro⟩:=h a (List.mem_cons_self ..);refine⟨fun z=>H z+k a*H' z,fun z=>V z+k a*V' z,⟨fun z hz=>?_,fun z hz=>?_⟩,fun y hy=>?_⟩
  ·show V z+k a*V' z=0;rw[off.v z hz,gK.v z hz];simp
  ·show H z+k a*H' z=0;rw[off.h z hz,gK.h z hz];simp
  ·have e:CP (fun z=>H z+k a*H' z) (fun z=>V z+k a*V' z) y=CP H V y+k a*CP H' V' y:=by
    unfold CP;simp only[Int.mul_sub,Int.mul_add];lia
   rw[e,hc y hy,Ro y hy];by_cases ha:y=a
   ·subst ha;rw[if_neg n1,if_pos rfl,if_pos (List.mem_cons_self ..)];simp
   ·rw[if_neg ha];by_cases hL:y∈L
    ·rw[if_pos hL,if_pos (List.mem_cons_of_mem _ hL)];simp
    ·rw[if_neg hL,if_neg (by simp[ha,hL])];simp
theorem Y6{F:List Sq}(hF:∀x∈F,0<=x.1/\x.1<=7/\0<=x.2/\x.2<=7)(hB:∀x,A9 x->x∉F->Bare F x):∃H V,Off F H V/\∀y,A9 y->CP H V y=if y∈F then 0 else -4*sgn y:=by
 let box:List Sq:=(List.range 10).flatMap fun(i:Nat)=>(List.range 10).map fun(j:Nat)=>((i:Int)-1,(j:Int)-1);have Cd:∀x:Sq,A9 x↔x∈box:=fun x=>by
  simp only[box,List.mem_flatMap,List.mem_range,List.mem_map,A9];constructor
  ·intro h;exact⟨(x.1+1).toNat,by lia,(x.2+1).toNat,by lia,by ext<;>simp only<;>lia⟩
  ·rintro⟨i,hi,j,hj,rfl⟩;simp only;lia
 have nd:box.Nodup:=by decide +kernel
 obtain⟨H,V,off,hc⟩:=Rf (F:=F) (fun y=>-4*sgn y) (L:=box.filter fun x=>!F.contains x) (nd.filter _) fun x hx=>by
  rw[List.mem_filter]at hx;exact YY (fun y hy=>⟨(hF y hy).1,(hF y hy).2.2.1⟩) (hB x ((Cd x).mpr hx.1) (by simpa using hx.2))
 refine⟨H,V,off,fun y hy=>?_⟩;rw[hc y hy];by_cases h:y∈F
 ·rw[if_pos h,if_neg (by simp[h])]
 ·rw[if_neg h,if_pos (by rw[List.mem_filter];exact⟨(Cd y).mp hy,by simpa using h⟩)]
end
section
def crs(l:Lay)(a b:Sq):Int:=if (a,b)∈l then -3 else 1
def V0(l:Lay)(x:Sq):Int:=sgn x*crs l (x.1,x.2-1) x
def H0(l:Lay)(x:Sq):Int:=-(sgn x)*crs l (x.1-1,x.2) x
theorem VQ(r c:Int):sgn (r,c+1)=-(sgn (r,c)):=by unfold sgn;simp only;split<;>split<;>lia
theorem VT(r c:Int):sgn (r+1,c)=-(sgn (r,c)):=by unfold sgn;simp only;split<;>split<;>lia
theorem Z9(l:Lay)(r c:Int):CP (H0 l) (V0 l) (r,c)=sgn (r,c)*(crs l (r,c-1) (r,c)+crs l (r,c) (r+1,c)+crs l (r,c) (r,c+1)+crs l (r-1,c) (r,c)):=by unfold CP V0 H0;simp only[VQ,VT,Int.add_sub_cancel,Int.mul_add,Int.neg_mul,Int.neg_neg];lia
variable {F:List Sq}{l:Lay}
theorem b9(nd:F.Nodup)(I:IsLay F l){r c:Int}(h:(r,c)∈F):crs l (r,c-1) (r,c)+crs l (r,c) (r+1,c)+crs l (r,c) (r,c+1)+crs l (r-1,c) (r,c)=0:=by
 obtain⟨s,hs,hx⟩:=Fx.mp (I.pm.mem_iff.mpr h);have st:=I.st s hs;have gz:∀t∈l,((r,c)=t.1\/(r,c)=t.2)->t=s:=fun t ht h'=>Ri nd I ht hs h' hx;have g:=fV st.2 st.1;obtain⟨⟨a,b⟩,⟨d,e⟩⟩:=s;have u1:=fun h'=>gz ((r,c-1),(r,c)) h' (.inr rfl);have u2:=fun h'=>gz ((r,c),(r+1,c)) h' (.inl rfl);have u3:=fun h'=>gz ((r,c),(r,c+1)) h' (.inl rfl);have u4:=fun h'=>gz ((r-1,c),(r,c)) h' (.inr rfl);simp only[Prod.mk.injEq]at hx g u1 u2 u3 u4;unfold crs;rcases hx with⟨rfl,rfl⟩|⟨rfl,rfl⟩<;>rcases g with⟨e1,e2⟩|⟨e1,e2⟩
 ·subst e1 e2;rw[if_neg fun h'=>by have:=u1 h';lia,if_neg fun h'=>by have:=u2 h';lia,if_pos hs,if_neg fun h'=>by have:=u4 h';lia];rfl
 ·subst e1 e2;rw[if_neg fun h'=>by have:=u1 h';lia,if_pos hs,if_neg fun h'=>by have:=u3 h';lia,if_neg fun h'=>by have:=u4 h';lia];rfl
 ·have ea:a=r:=by lia
  have eb:b=c-1:=by lia
  subst ea eb;rw[if_pos hs,if_neg fun h'=>by have:=u2 h';lia,if_neg fun h'=>by have:=u3 h';lia,if_neg fun h'=>by have:=u4 h';lia];rfl
 ·have ea:a=r-1:=by lia
  have eb:b=c:=by lia
  subst ea eb;rw[if_neg fun h'=>by have:=u1 h';lia,if_neg fun h'=>by have:=u2 h';lia,if_neg fun h'=>by have:=u3 h';lia,if_pos hs];rfl
theorem EL(I:IsLay F l){a b:Sq}(h:a∉F\/b∉F):crs l a b=1:=by
 unfold crs;refine if_neg fun hs=>?_
 have:=Xz I hs
 rcases h with h|h
 ·exact h this.1
 ·exact h this.2
theorem Y1(nd:F.Nodup)(I:IsLay F l){x:Sq}(h:x∈F):CP (H0 l) (V0 l) x=0:=by obtain⟨r,c⟩:=x;rw[Z9,b9 nd I h];simp
theorem VH(I:IsLay F l){x:Sq}(h:x∉F):CP (H0 l) (V0 l) x=4*sgn x:=by obtain⟨r,c⟩:=x;rw[Z9,EL I (.inr h),EL I (.inl h),EL I (.inl h),EL I (.inr h)];lia
structure Hts (F:List Sq) (h:Lay->Sq->Int):Prop where
 dn:∀l,IsLay F l->∀x:Sq,A9 x->(x∈F\/(x.1,x.2-1)∈F)->h l (x.1+1,x.2)=h l x+V0 l x
 rt:∀l,IsLay F l->∀x:Sq,A9 x->(x∈F\/(x.1-1,x.2)∈F)->h l (x.1,x.2+1)=h l x+H0 l x
 out:∀l m,IsLay F l->IsLay F m->∀x:Sq,A9 x->x∉F->h l x=h m x/\h l (x.1+1,x.2)=h m (x.1+1,x.2)/\h l (x.1,x.2+1)=h m (x.1,x.2+1)/\h l (x.1+1,x.2+1)=h m (x.1+1,x.2+1)
theorem bH(nd:F.Nodup)(hF:∀x∈F,0<=x.1/\x.1<=7/\0<=x.2/\x.2<=7)(hB:∀x,A9 x->x∉F->Bare F x):∃h:Lay->Sq->Int,Hts F h:=by
 obtain⟨H,V,off,hc⟩:=Y6 hF hB;have cl:∀l,IsLay F l->∀x,A9 x->CP (fun z=>H0 l z+H z) (fun z=>V0 l z+V z) x=0:=by
  intro l I x hx;have e:CP (fun z=>H0 l z+H z) (fun z=>V0 l z+V z) x=CP (H0 l) (V0 l) x+CP H V x:=by unfold CP;simp only;lia
  rw[e,hc x hx];by_cases h:x∈F
  ·rw[Y1 nd I h,if_pos h];rfl
  ·rw[VH I h,if_neg h];lia
 let p:Lay->Sq->Int:=fun l=>pot (fun z=>H0 l z+H z) (fun z=>V0 l z+V z);have pV:∀l (x:Sq),-1<=x.1->p l (x.1+1,x.2)=p l x+(V0 l x+V x):=fun l x hx=>Xa _ _ hx;have pH:∀l,IsLay F l->∀x:Sq,-1<=x.1/\x.1<=9->-1<=x.2/\x.2<=8->p l (x.1,x.2+1)=p l x+(H0 l x+H x):=fun l I x h1 h2=>gL _ _ (cl l I) h1 h2;refine⟨p,fun l I x hb hx=>?_,fun l I x hb hx=>?_,?_⟩
 ·rw[pV l x hb.1,off.v x hx];lia
 ·rw[pH l I x ⟨hb.1,by have:=hb.2.1;lia⟩ hb.2.2,off.h x hx];lia
 ·
  have key:∀l m,IsLay F l->IsLay F m->∀x:Sq,Bare F x->p l x=p m x/\p l (x.1+1,x.2)=p m (x.1+1,x.2)/\p l (x.1,x.2+1)=p m (x.1,x.2+1)/\p l (x.1+1,x.2+1)=p m (x.1+1,x.2+1):=by
   intro l m I J;have around:∀x:Sq,x∉F->A9 x->(p l x-p m x=p l (x.1+1,x.2)-p m (x.1+1,x.2))/\(p l x-p m x=p l (x.1,x.2+1)-p m (x.1,x.2+1))/\(p l x-p m x=p l (x.1+1,x.2+1)-p m (x.1+1,x.2+1)):=by
    intro x hn hb;obtain⟨r,c⟩:=x;have LI:=hb.1;have Yy:=hb.2.1;have ig:=hb.2.2.1;have jO:=hb.2.2.2;simp only at LI Yy ig jO;have v1:∀l,IsLay F l->V0 l (r,c)=sgn (r,c):=fun l I=>by unfold V0;rw[EL I (.inr hn)];lia
    have h1:∀l,IsLay F l->H0 l (r,c)=-(sgn (r,c)):=fun l I=>by unfold H0;rw[EL I (.inr hn)];lia
    have v2:∀l,IsLay F l->V0 l (r,c+1)=sgn (r,c+1):=fun l I=>by unfold V0;simp only[Int.add_sub_cancel];rw[EL I (.inl hn)];lia
    have a1:=pV l (r,c) LI;have a2:=pV m (r,c) LI;have b1:=pH l I (r,c) ⟨LI,by simp only;lia⟩ ⟨ig,jO⟩;have b2:=pH m J (r,c) ⟨LI,by simp only;lia⟩ ⟨ig,jO⟩;have d1:=pV l (r,c+1) LI;have d2:=pV m (r,c+1) LI;rw[v1 l I]at a1;rw[v1 m J]at a2;rw[h1 l I]at b1;rw[h1 m J]at b2;rw[v2 l I]at d1;rw[v2 m J]at d2;simp only at a1 a2 b1 b2 d1 d2 ⊢;lia
   have h0:(-1,-1)∉F:=fun h=>by have:=(hF _ h).1;simp at this
   intro x hx
   induction hx with
   |base=>
    have o:=around (-1,-1) h0 (by unfold A9;simp);have z:∀l:Lay,p l (-1,-1)=0:=fun l=>by
     show pot _ _ (-1,-1)=0;unfold pot;simp[TX]
    have z1:=z l;have z2:=z m;lia
   |step hx hn hb Wh ih=>
    rename_i x y;have o:=around y Wh hb;obtain⟨r,c⟩:=x;simp only[nbM,List.mem_cons,List.not_mem_nil,or_false]at hn;rcases hn with rfl|rfl|rfl|rfl<;>simp only[Int.sub_add_cancel]at o ih ⊢<;>lia
  exact fun l m I J x hb hn=>key l m I J x (hB x hb hn)
end
section
variable {F:List Sq}
theorem OO(h:Ca F=false){s:Sq}{t:Int}(ht:t=-1\/t=1)(h1:s∈F)(h2:(s.1+1,s.2+t)∈F)(h3:(s.1,s.2+t)∉F)(h4:(s.1+1,s.2)∉F):False:=by
 have:Ca F=true:=by
  unfold Ca;rw[List.any_eq_true];refine⟨s,h1,?_⟩;rw[List.any_eq_true];refine⟨t,by rcases ht with rfl|rfl<;>simp,?_⟩;unfold EJ;simp[h2,h3,h4]
 rw[h]at this;cases this
theorem Vm(hp:Ca F=false){x y:Sq}(hx:Bare F x)(aT:x∉F)(nB:A9 x)(ha:Adj x y)(hb:A9 y)(hn:y∉F):Bare F y:=by
 obtain⟨a,b⟩:=x;obtain⟨c,d⟩:=y;unfold Adj at ha;unfold A9 at hb nB;simp only at ha hb nB;have Xj:∀{u v:Int},Bare F (u,v)->∀{u' v':Int},(u'=u-1/\v'=v)\/(u'=u/\v'=v-1)\/(u'=u/\v'=v+1)\/(u'=u+1/\v'=v)->(-1<=u'/\u'≤8/\-1<=v'/\v'≤8)->(u',v')∉F->Bare F (u',v'):=by
  intro u v hu u' v' hn hb hf;refine .step hu ?_ hb hf;simp only[nbM,List.mem_cons,List.not_mem_nil,or_false,Prod.mk.injEq];exact hn
 by_cases h1:a=c\/b=d
 ·by_cases h2:a=c/\b=d
  ·obtain⟨rfl,rfl⟩:=h2;exact hx
  ·exact Xj hx (by lia) hb hn
 ·by_cases hu:(a,d)∈F
  ·by_cases hv:(c,b)∈F
   ·exfalso;by_cases hc:c=a+1
    ·subst hc;have hd:b=d+(b-d):=by lia
     refine OO hp (s:=(a,d)) (t:=b-d) (by lia) hu ?_ ?_ ?_
     ·simp only;rw[<-hd];exact hv
     ·simp only;rw[<-hd];exact aT
     ·exact hn
    ·have Ro:a=c+1:=by lia
     subst Ro;have hd:d=b+(d-b):=by lia
     refine OO hp (s:=(c,b)) (t:=d-b) (by lia) hv ?_ ?_ ?_
     ·simp only;rw[<-hd];exact hu
     ·simp only;rw[<-hd];exact hn
     ·exact aT
   ·exact Xj (Xj hx (u':=c) (v':=b) (by lia) (by lia) hv) (by lia) hb hn
  ·exact Xj (Xj hx (u':=a) (v':=d) (by lia) (by lia) hu) (by lia) hb hn
theorem VO(gd:Good F)(hp:Ca F=false)(hh:∀x,g2 F x->Con Adj (g2 F) (-1,-1) x):∀x,A9 x->x∉F->Bare F x:=by
 have h0:(-1,-1)∉F:=fun h=>by have:=(gd.inn _ h).1;simp at this
 have key:∀x,Con Adj (g2 F) (-1,-1) x->Bare F x/\x∉F/\A9 x:=by
  intro x h
  induction h with
  |base=>exact⟨.base,h0,by unfold A9;simp⟩
  |step _ ha hg ih=>exact⟨Vm hp ih.1 ih.2.1 ih.2.2 ha hg.1 hg.2,hg.2,hg.1⟩
 exact fun x hb hn=>(key x (hh x ⟨hb,hn⟩)).1
end
section
variable {F:List Sq}{s:Sq}
def cor(x:Sq):List Sq:=[x,(x.1,x.2+1),(x.1+1,x.2),(x.1+1,x.2+1)]
theorem AU{x y:Sq}:y∈cor x↔y=x\/y=(x.1,x.2+1)\/y=(x.1+1,x.2)\/y=(x.1+1,x.2+1):=by simp[cor]
theorem Lu{β:Type}(f:Sq->β)(hv:∀x:Sq,(x∈F\/(x.1,x.2-1)∈F)->f (x.1+1,x.2)=f x)(hh:∀x:Sq,(x∈F\/(x.1-1,x.2)∈F)->f (x.1,x.2+1)=f x)(hang:∀x∈F,Con nbR (·∈F) s x)(hs:s∈F):∀x∈F,∀y∈cor x,f y=f s:=by
 have jI:∀x∈F,∀y∈cor x,f y=f x:=by
  intro x hx y hy;rcases AU.mp hy with rfl|rfl|rfl|rfl
  ·rfl
  ·exact hh x (.inl hx)
  ·exact hv x (.inl hx)
  ·have:=hv (x.1,x.2+1) (.inr (by simp only[Int.add_sub_cancel];exact hx))
   exact this.trans (hh x (.inl hx))
 have all:∀x,Con nbR (·∈F) s x->x∈F->f x=f s:=by
  intro x h
  induction h with
  |base=>exact fun _=>rfl
  |step hx hn hy ih=>
   rename_i x y;intro Wh;have aT:x∈F:=by
    cases hx with
    |base=>exact hs
    |step _ _ g=>exact g
   have h1:=ih aT;have TV:y∈nbM x:=hn;simp only[nbM,List.mem_cons,List.not_mem_nil,or_false]at TV;rcases TV with rfl|rfl|rfl|rfl
   ·rw[<-h1,<-hv _ (.inl Wh)];simp only[Int.sub_add_cancel]
   ·rw[<-h1,<-hh _ (.inl Wh)];simp only[Int.sub_add_cancel]
   ·rw[<-h1];exact jI x aT _ (AU.mpr (.inr (.inl rfl)))
   ·rw[<-h1];exact jI x aT _ (AU.mpr (.inr (.inr (.inl rfl))))
 exact fun x hx y hy=>(jI x hx y hy).trans (all x (hang x hx) hx)
structure Pl (F:List Sq) (h:Lay->Sq->Int):Prop where
 gd:Good F
 hts:Hts F h
 hang:∃s∈F,∀x∈F,Con nbR (·∈F) s x
variable {h:Lay->Sq->Int}{l m:Lay}
theorem Pl.box(P:Pl F h){x:Sq}(hx:x∈F\/(x.1,x.2-1)∈F\/(x.1-1,x.2)∈F):A9 x:=by unfold A9;rcases hx with hx|hx|hx<;>have:=P.gd.inn _ hx<;>(try simp only at this)<;>lia
theorem Pl.dn(P:Pl F h)(I:IsLay F l){x:Sq}(hx:x∈F\/(x.1,x.2-1)∈F):h l (x.1+1,x.2)=h l x+V0 l x:=P.hts.dn l I x (P.box (hx.elim .inl fun z=>.inr (.inl z))) hx
theorem Pl.rt(P:Pl F h)(I:IsLay F l){x:Sq}(hx:x∈F\/(x.1-1,x.2)∈F):h l (x.1,x.2+1)=h l x+H0 l x:=P.hts.rt l I x (P.box (hx.elim .inl fun z=>.inr (.inr z))) hx
theorem Jd(l:Lay)(a b:Sq):crs l a b=1\/crs l a b=-3:=by unfold crs;split<;>simp
theorem RK(x:Sq):sgn x=1\/sgn x=-1:=by unfold sgn;split<;>simp
theorem X8(l m:Lay)(x:Sq):(V0 l x-V0 m x)%4=0:=by unfold V0;rcases Jd l (x.1,x.2-1) x with e1|e1<;>rcases Jd m (x.1,x.2-1) x with e2|e2<;>rcases RK x with e3|e3<;>rw[e1,e2,e3]<;>decide
theorem Yw(l m:Lay)(x:Sq):(H0 l x-H0 m x)%4=0:=by unfold H0;rcases Jd l (x.1-1,x.2) x with e1|e1<;>rcases Jd m (x.1-1,x.2) x with e2|e2<;>rcases RK x with e3|e3<;>rw[e1,e2,e3]<;>decide
theorem Pl.edge(P:Pl F h)(I:IsLay F l)(J:IsLay F m){y:Sq}(hy:0<=y.1/\y.1<=8/\0<=y.2/\y.2<=8)(hb:y∉F\/(y.1-1,y.2)∉F\/(y.1,y.2-1)∉F\/(y.1-1,y.2-1)∉F):h l y=h m y:=by
 obtain⟨r,c⟩:=y;simp only at hy hb;rcases hb with hb|hb|hb|hb
 ·exact(P.hts.out l m I J (r,c) (by unfold A9;simp only;lia) hb).1
 ·have:=(P.hts.out l m I J (r-1,c) (by unfold A9;simp only;lia) hb).2.1
  simp only[Int.sub_add_cancel]at this;exact this
 ·have:=(P.hts.out l m I J (r,c-1) (by unfold A9;simp only;lia) hb).2.2.1
  simp only[Int.sub_add_cancel]at this;exact this
 ·have:=(P.hts.out l m I J (r-1,c-1) (by unfold A9;simp only;lia) hb).2.2.2
  simp only[Int.sub_add_cancel]at this;exact this
theorem Pl.start(P:Pl F h):∃s∈F,∀x∈F,(x=s\/AZ s x):=by
 obtain⟨a,t,e⟩:=List.exists_cons_of_ne_nil P.gd.ne;refine⟨a,by rw[e];simp,fun x hx=>?_⟩;rw[e]at hx;rcases List.mem_cons.mp hx with rfl|hx
 ·exact .inl rfl
 ·have:=P.gd.up
  rw[e]at this;exact .inr ((List.pairwise_cons.mp this).1 x hx)
theorem Pl.cor_in(P:Pl F h){x y:Sq}(hx:x∈F)(hy:y∈cor x):0<=y.1/\y.1<=8/\0<=y.2/\y.2<=8:=by
 have:=P.gd.inn x hx
 rcases AU.mp hy with rfl|rfl|rfl|rfl<;>(try simp only)<;>lia
theorem Pl.zero(P:Pl F h)(I:IsLay F l)(J:IsLay F m){s:Sq}(hs:s∈F)(hm:∀x∈F,(x=s\/AZ s x)):h l s=h m s:=by
 have hn:(s.1-1,s.2)∉F:=fun h=>by
  rcases hm _ h with e|e
  ·have:=congrArg Prod.fst e;simp only at this;lia
  ·unfold AZ at e;simp only at e;lia
 exact P.edge I J (P.cor_in hs (AU.mpr (.inl rfl))) (.inr (.inl hn))
theorem Pl.hangs(P:Pl F h){β:Type}(f:Sq->β)(hv:∀x:Sq,(x∈F\/(x.1,x.2-1)∈F)->f (x.1+1,x.2)=f x)(hh:∀x:Sq,(x∈F\/(x.1-1,x.2)∈F)->f (x.1,x.2+1)=f x){x y x' y':Sq}(hx:x∈F)(hy:y∈cor x)(jM:x'∈F)(WR:y'∈cor x'):f y=f y':=by obtain⟨s,hs,hang⟩:=P.hang;rw[Lu f hv hh hang hs x hx y hy,Lu f hv hh hang hs x' jM y' WR]
theorem Pl.four(P:Pl F h)(I:IsLay F l)(J:IsLay F m){x y:Sq}(hx:x∈F)(hy:y∈cor x):(h l y-h m y)%4=0:=by
 obtain⟨s,hs,hm⟩:=P.start;have z:=P.zero I J hs hm
 have:=P.hangs (fun z=>(h l z-h m z)%4) (fun x hx=>by
  rw[P.dn I hx,P.dn J hx]
  have:=X8 l m x
  lia) (fun x hx=>by
  rw[P.rt I hx,P.rt J hx]
  have:=Yw l m x
  lia) hx hy hs (AU.mpr (.inl rfl))
 rw[this,z];simp
end
end TF
namespace TF
open PySem PySem.Spec L2
open PyProof.Rows hiding St RelV
structure Zt (h:Heap) (z TI TO i1 i2 l1 l2:Addr) (f0:Value) (k:Nat) (xs ys:Array Value):Prop where
 hz:IsZip h z TI TO f0
 hI:IsPair h TI (.ref i1) (.ref i2)
 hO:∃a b,IsPair h TO a b
 h1:h.IsTupleIter i1 l1 k
 h2:h.IsTupleIter i2 l2 k
 t1:h.IsTuple l1 xs
 t2:h.IsTuple l2 ys
section
variable {prog:Program}{w:World}{A:Around}{E:Value->Shared->Prop}{s:Shared}{z TI TO i1 i2 l1 l2:Addr}{k:Nat}{xs ys:Array Value}{x y:Value}
theorem KQ{Q:Fin->Shared->Prop}(D:ZipApart z TI TO i1 i2 l1 l2)(Z:Zt s.heap z TI TO i1 i2 l1 l2 .none k xs ys)(go:∀h1,IsZip h1 z TI TO .ellipsis->Heap.SameBut z s.heap h1->(match xs[k]? with
   |none=>∀h2 e,Heap.ExtBut i1 h1 h2->(∃o,h2.get? e=some o/\o.cls=.type "StopIteration")->wpAny (model prog w) A (setField (.ref z) 0 .none) (fun _ s'=>E (.ref e) s') E { s with heap:=h2 }
   |some x=>∀h2 h3 b,h2.IsTupleIter i1 l1 (k+1)->Heap.SameBut i1 h1 h2->IsPair h3 TO x b->Heap.SameBut TO h2 h3->(match ys[k]? with
    |none=>∀h4 e,Heap.ExtBut i2 h3 h4->(∃o,h4.get? e=some o/\o.cls=.type "StopIteration")->wpAny (model prog w) A (setField (.ref z) 0 .none) (fun _ s'=>E (.ref e) s') E { s with heap:=h4 }
    |some y=>∀h4 h5,h4.IsTupleIter i2 l2 (k+1)->Heap.SameBut i2 h3 h4->IsPair h5 TO x y->Heap.SameBut TO h4 h5 →
      wpAny (model prog w) A (do let result <-newTuple [x,y];Builtin.SmallTypes.ownedTupleHandOut (.ref z) result;ret result) Q E { s with heap:=h5 })))(hh:A.handled=none):wpAny (model prog w) A (Builtin.«zip.__next__» ⟨[.ref z],[]⟩) Q E s:=by
 obtain⟨a,b,hO⟩:=Z.hO;have hz:=Z.hz;show wpAny _ _ (field (.ref z) 2 >>= _) _ _ _;refine wpAny_bind (wpAny_field hz rfl (x:=.bool false) rfl ?_);show wpAny _ _ (field (.ref z) 3 >>= _) _ _ _;refine wpAny_bind (wpAny_field hz rfl (x:=.ref TI) rfl (wpAny_bind (wpAny_seqItems Z.hI rfl ?_)));show wpAny _ _ (Builtin.SmallTypes.ownedTupleIsFree (.ref z) >>= _) _ _ _;refine wpAny_bind ?_;unfold Builtin.SmallTypes.ownedTupleIsFree;refine wpAny_bind (wpAny_field hz rfl (x:=.none) rfl (wpAny_pure ?_));simp only[if_true];refine wpAny_bind (wpAny_rule (wpAny_bind (wpAny_field hz rfl (x:=.ref TO) rfl (wpAny_bind (wpAny_setField_rec hz (by simp) fun h1 R6 s1=>wpAny_bind ?_)))));replace R6:IsZip h1 z TI TO .ellipsis:=R6;have G:=go h1 R6 s1;have a1:h1.IsTupleIter i1 l1 k:=Z.h1.at fun o e=>s1.extBut _ o D.i1z e;have a2:h1.IsTuple l1 xs:=Z.t1.extBut s1.extBut D.l1z;have a3:IsPair h1 TO a b:=s1.extBut _ _ D.TOz hO;simp only[List.zipIdx_cons,List.zipIdx_nil,List.forIn_cons,List.forIn_nil];refine wpAny_bind (wpAny_bind (wpAny_onRaise ?_));show wpAny _ _ (Builtin.SmallTypes.nextOf (.ref i1) >>= _) _ _ _;cases hx:xs[k]? with
 |none=>
  rw[hx]at G;exact wpAny_bind (Lx hh a1 a2 hx fun h2 e s2 he=>G h2 e s2 he)
 |some x=>
  rw[hx]at G;refine wpAny_bind (KC a1 a2 hx fun h2 b1 s2=>wpAny_pure ?_);have b3:IsPair h2 TO a b:=s2.extBut _ _ D.TOi1 a3;refine wpAny_bind (wpAny_seqItems b3 rfl (wpAny_bind (wpAny_updateSeq_pair b3 fun h3 c3 s3=>wpAny_bind (wpAny_letGo (wpAny_pure ?_)))));replace c3:IsPair h3 TO x b:=c3;have G2:=G h2 h3 b b1 s2 c3 s3;refine wpAny_bind (wpAny_bind (wpAny_onRaise ?_));show wpAny _ _ (Builtin.SmallTypes.nextOf (.ref i2) >>= _) _ _ _;have e1:h3.IsTupleIter i2 l2 k:=Z.h2.at fun o e=>s3.extBut _ o D.TOi2.symm (s2.extBut _ o D.i12.symm (s1.extBut _ o D.i2z e));have e2:h3.IsTuple l2 ys:=((Z.t2.extBut s1.extBut D.l2z).extBut s2.extBut D.l2i1).extBut s3.extBut D.l2TO;cases hy:ys[k]? with
  |none=>
   rw[hy]at G2;exact wpAny_bind (Lx hh e1 e2 hy fun h4 e s4 he=>G2 h4 e s4 he)
  |some y=>
   rw[hy]at G2;refine wpAny_bind (KC e1 e2 hy fun h4 d1 s4=>wpAny_pure ?_);have d3:IsPair h4 TO x b:=s4.extBut _ _ D.TOi2 c3;refine wpAny_bind (wpAny_seqItems d3 rfl (wpAny_bind (wpAny_updateSeq_pair d3 fun h5 f3 s5=>wpAny_bind (wpAny_letGo (wpAny_pure (wpAny_pure ?_))))));replace f3:IsPair h5 TO x y:=f3;exact wpAny_bind (wpAny_seqItems f3 rfl (G2 h4 h5 d1 s4 f3 s5))
theorem UN{Q:Option Value->Shared->Prop}(hh:A.in1.handled=none)(D:ZipApart z TI TO i1 i2 l1 l2)(Z:Zt s.heap z TI TO i1 i2 l1 l2 .none k xs ys)(hx:xs[k]?=some x)(hy:ys[k]?=some y)(hQ:∀h',Zt h' z TI TO i1 i2 l1 l2 (rawInt s.heap.objs.size) (k+1) xs ys->IsPair h' s.heap.objs.size x y->(∀c o,c≠z->c≠TO->c≠i1->c≠i2->s.heap.get? c=some o->h'.get? c=some o)->Q (some (.ref s.heap.objs.size)) { s with heap:=h' }) :
  wpAny (model prog w) A (pyNext (.ref z)) Q E s:=by
 have hT:s.TypeIs (.ref z) "zip":=⟨_,Z.hz,rfl⟩;unfold pyNext;refine wpAny_bind (wpAny_attempt (wpAny_callSpecial?_slot (name:=Str.ofString "__next__") hT F.slot_zip_next (wpAny_call_entry F.slot_zip_next hT F.entry_zip_next ?_ (F.args_zip_next_1 _))));refine KQ D Z (fun h1 R6 s1=>?_) hh;rw[hx];intro h2 h3 b b1 s2 c3 s3;rw[hy];intro h4 h5 d1 s4 f3 s5;have hsz:h5.objs.size=s.heap.objs.size:=by rw[s5.1,s4.1,s3.1,s2.1,s1.1]
 have nE:IsZip h5 z TI TO .ellipsis:=s5.extBut _ _ D.TOz.symm (s4.extBut _ _ D.i2z.symm (s3.extBut _ _ D.TOz.symm (s2.extBut _ _ D.i1z.symm R6)));have k5:∀c o,c≠z->c≠TO->c≠i1->c≠i2->s.heap.get? c=some o->h5.get? c=some o:=fun c o c1 c2 c3 c4 e=>s5.extBut _ _ c2 (s4.extBut _ _ c4 (s3.extBut _ _ c2 (s2.extBut _ _ c3 (s1.extBut _ _ c1 e))));have g1:h5.IsTupleIter i1 l1 (k+1):=b1.at fun o e=>s5.extBut _ o D.TOi1.symm (s4.extBut _ o D.i12 (s3.extBut _ o D.TOi1.symm e));have g2:h5.IsTupleIter i2 l2 (k+1):=d1.at fun o e=>s5.extBut _ o D.TOi2.symm e;have zl:z<h5.objs.size:=Heap.lt_size nE;refine wpAny_bind (wpAny_newTuple (wpAny_bind ?_));unfold Builtin.SmallTypes.ownedTupleHandOut;have rG:IsZip (h5.push { cls:=.type "tuple",data:=.seq #[x,y] }) z TI TO .ellipsis:=Heap.get?_push_of_some _ nE;refine wpAny_bind (wpAny_setField_rec rG (by simp) fun h7 jY s7=>?_);replace jY:IsZip h7 z TI TO (rawInt h5.objs.size):=jY;refine wpAny_setField_rec jY (by simp) fun h8 gs s8=>?_;replace gs:IsZip h8 z TI TO (rawInt h5.objs.size):=gs;have up:∀c o,c≠z->h5.get? c=some o->h8.get? c=some o:=fun c o c1 e=>s8.extBut _ _ c1 (s7.extBut _ _ c1 (Heap.get?_push_of_some _ e));have lg:IsPair h8 h5.objs.size x y:=s8.extBut _ _ (Nat.ne_of_gt zl) (s7.extBut _ _ (Nat.ne_of_gt zl) (Heap.get?_push_size _ rfl));rw[hsz]at gs lg;refine wpAny_pure ⟨_,rfl,wpAny_pure ?_⟩;show Q (some (.ref h5.objs.size)) _;rw[hsz];have kk:∀c o,c≠z->c≠TO->c≠i1->c≠i2->s.heap.get? c=some o->h8.get? c=some o:=fun c o c1 c2 c3 c4 e=>up c o c1 (k5 c o c1 c2 c3 c4 e);refine hQ h8 ⟨gs,kk _ _ D.TIz D.TITO D.TIi1 D.TIi2 Z.hI,⟨x,y,up _ _ D.TOz f3⟩,g1.at fun o e=>up _ o D.i1z e,g2.at fun o e=>up _ o D.i2z e,Z.t1.at fun o e=>kk _ o D.l1z D.l1TO D.l1i1 D.l1i2 e,Z.t2.at fun o e=>kk _ o D.l2z D.l2TO D.l2i1 D.l2i2 e⟩ lg kk
theorem VP{Q:Option Value->Shared->Prop}(hh:A.in1.handled=none)(D:ZipApart z TI TO i1 i2 l1 l2)(Z:Zt s.heap z TI TO i1 i2 l1 l2 .none k xs ys)(kj:xs[k]?=none\/ys[k]?=none)(hQ:∀h',(∀c o,c≠z->c≠TO->c≠i1->c≠i2->s.heap.get? c=some o->h'.get? c=some o)->Q none { s with heap:=h' }):wpAny (model prog w) A (pyNext (.ref z)) Q E s:=by
 have hT:s.TypeIs (.ref z) "zip":=⟨_,Z.hz,rfl⟩;unfold pyNext;refine wpAny_bind (wpAny_attempt (wpAny_callSpecial?_slot (name:=Str.ofString "__next__") hT F.slot_zip_next (wpAny_call_entry F.slot_zip_next hT F.entry_zip_next ?_ (F.args_zip_next_1 _))));refine KQ D Z (fun h1 R6 s1=>?_) hh;cases hx:xs[k]? with
 |none=>
  intro h2 e s2 ⟨oe,YH,dY⟩;have aS:IsZip h2 z TI TO .ellipsis:=s2 _ _ D.i1z.symm R6;have lN:e≠z:=fun x=>by subst x;rw[aS]at YH;cases YH;simp at dY
  refine wpAny_setField_rec aS (by simp) fun h3 _ s3=>?_;refine wpAny_bind (wpAny_isInstance (T:="StopIteration") (b:=true) ⟨oe,s3.extBut _ _ lN YH,dY⟩ isSubtype_stop (wpAny_pure (hQ h3 fun c o c1 _ c3 _ x=>?_)));exact s3.extBut _ _ c1 (s2 _ _ c3 (s1.extBut _ _ c1 x))
 |some x=>
  have hy:ys[k]?=none:=by rcases kj with h|h;rw[hx]at h;cases h;exact h
  intro h2 h3 b b1 s2 c3 s3;rw[hy];intro h4 e s4 ⟨oe,YH,dY⟩;have nJ:IsZip h4 z TI TO .ellipsis:=s4 _ _ D.i2z.symm (s3.extBut _ _ D.TOz.symm (s2.extBut _ _ D.i1z.symm R6));have lN:e≠z:=fun x=>by subst x;rw[nJ]at YH;cases YH;simp at dY
  refine wpAny_setField_rec nJ (by simp) fun h5 _ s5=>?_;refine wpAny_bind (wpAny_isInstance (T:="StopIteration") (b:=true) ⟨oe,s5.extBut _ _ lN YH,dY⟩ isSubtype_stop (wpAny_pure (hQ h5 fun c o c1 c2 c3 c4 x=>?_)));exact s5.extBut _ _ c1 (s4 _ _ c4 (s3.extBut _ _ c2 (s2.extBut _ _ c3 (s1.extBut _ _ c1 x))))
end
abbrev zO(I O:Addr):Obj:={ cls:=.type "zip",data:=.fields #[.none,.bool false,.bool false,.ref I,.ref O] }
abbrev prO(a b:Value):Obj:={ cls:=.type "tuple",data:=.seq #[a,b] }
abbrev zq2(h:Heap)(a b:Addr):Heap:=(h.push (tiO a)).push (tiO b)
abbrev zq3(h:Heap)(a b:Addr):Heap:=(zq2 h a b).push (prO (.ref h.objs.size) (.ref (h.push (tiO a)).objs.size))
abbrev zq4(h:Heap)(a b:Addr):Heap:=(zq3 h a b).push (prO .none .none)
abbrev zq5(h:Heap)(a b:Addr):Heap:=(zq4 h a b).push (zO (zq2 h a b).objs.size (zq3 h a b).objs.size)
theorem Q9(a b:Addr)(xs ys:Array Value) :
  Meets (Builtin.«zip.__new__» ⟨[.type "zip",.ref a,.ref b],[]⟩) (fun _ R s=>s.heap.IsTuple a xs/\s.heap.IsTuple b ys/\R (.ok (.ret (.ref (zq4 s.heap a b).objs.size))) { s with heap:=zq5 s.heap a b }):=
 .of_wp fun prog w A R s h=>by
  obtain⟨hp,g,d,tk,os⟩:=s;obtain⟨t1,t2,h⟩:=h;have En:=sub_zip;have q1:Heap.IsTuple (Shared.heap ⟨hp,g,d,tk,os⟩) a xs:=t1;have q2:Heap.IsTuple (Shared.heap ⟨hp.push (tiO a),g,d,tk,os⟩) b ys:=Heap.IsTuple.push t2 _;wp_walk using wpAny_pyIter_tuple q1,wpAny_pyIter_tuple q2;exact⟨_,rfl,h⟩
section
variable {prog:Program}{w:World}{A:Around}{E:Value->Shared->Prop}{s:Shared}
theorem UJ{a b:Addr}{xs ys:Array Value}{Q:Value->Shared->Prop}(t1:s.heap.IsTuple a xs)(t2:s.heap.IsTuple b ys)(h:∀h',Zt h' (s.heap.objs.size+4) (s.heap.objs.size+2) (s.heap.objs.size+3) s.heap.objs.size (s.heap.objs.size+1) a b .none 0 xs ys->(∀c o,s.heap.get? c=some o->h'.get? c=some o)->Q (.ref (s.heap.objs.size+4)) { s with heap:=h' }) :
  wpAny (model prog w) A (call (.type "zip") [.ref a,.ref b]) Q E s:=by
 refine callType_new F.called_zip (by decide) (F.typeCall_zip_2 _ _) (F.newCall_zip_2 _ _) (fun obj=>F.args_object_init_3 obj _ _) F.entry_zip_new (Q9 a b xs ys) ⟨t1,t2,?_⟩;have z1:(s.heap.push (tiO a)).objs.size=s.heap.objs.size+1:=Heap.size_push ..;have z2:(zq2 s.heap a b).objs.size=s.heap.objs.size+2:=by rw[Heap.size_push,z1]
 have z3:(zq3 s.heap a b).objs.size=s.heap.objs.size+3:=by rw[Heap.size_push,z2]
 have z4:(zq4 s.heap a b).objs.size=s.heap.objs.size+4:=by rw[Heap.size_push,z3]
 have g5:(zq5 s.heap a b).get? (zq4 s.heap a b).objs.size=some (zO (zq2 s.heap a b).objs.size (zq3 s.heap a b).objs.size):=Heap.get?_push_size _ rfl;have g4:(zq5 s.heap a b).get? (zq3 s.heap a b).objs.size=some (prO .none .none):=Heap.get?_push_of_some _ (Heap.get?_push_size _ rfl);have g3:(zq5 s.heap a b).get? (zq2 s.heap a b).objs.size=some (prO (.ref s.heap.objs.size) (.ref (s.heap.push (tiO a)).objs.size)):=Heap.get?_push_of_some _ (Heap.get?_push_of_some _ (Heap.get?_push_size _ rfl));have g2:(zq5 s.heap a b).get? (s.heap.push (tiO a)).objs.size=some (tiO b):=Heap.get?_push_of_some _ (Heap.get?_push_of_some _ (Heap.get?_push_of_some _ (Heap.get?_push_size _ rfl)));have g1:(zq5 s.heap a b).get? s.heap.objs.size=some (tiO a):=Heap.get?_push_of_some _ (Heap.get?_push_of_some _ (Heap.get?_push_of_some _ (Heap.get?_push_of_some _ (Heap.get?_push_size _ rfl))));have kp:∀c o,s.heap.get? c=some o->(zq5 s.heap a b).get? c=some o:=fun c o e=>Heap.get?_push_of_some _ (Heap.get?_push_of_some _ (Heap.get?_push_of_some _ (Heap.get?_push_of_some _ (Heap.get?_push_of_some _ e))));show _/\_;rw[z2,z3,z4]at g5;rw[z1,z2]at g3;rw[z3]at g4;rw[z1]at g2;rw[z4];exact⟨⟨_,g5,rfl⟩,h _ ⟨g5,g3,⟨_,_,g4⟩,⟨_,g1,rfl,rfl⟩,⟨_,g2,rfl,rfl⟩,t1.at fun o e=>kp _ o e,t2.at fun o e=>kp _ o e⟩ kp⟩
end
def Itz(K:PySem.W.Frag)(a b:Addr):It:=⟨fun i H=>∃xs ys x y,SqT K H a xs/\SqT K H b ys/\xs[i]?=some x/\ys[i]?=some y,fun i H v H'=>∃x y T,H T=none/\v=.ref T/\H'=upd H T (.tup [x,y])/\(∀xs,SqT K H a xs->xs[i]?=some x)/\∀ys,SqT K H b ys->ys[i]?=some y,
  fun i H=>∃xs ys,SqT K H a xs/\SqT K H b ys/\(xs.length<=i\/ys.length<=i)⟩
def Zs(z TI TO i1 i2 l1 l2:Addr)(i:Nat)(h:Heap):Prop:=IsZip h z TI TO .none/\IsPair h TI (.ref i1) (.ref i2)/\(∃a b,IsPair h TO a b)/\h.IsTupleIter i1 l1 i/\h.IsTupleIter i2 l2 i
theorem Vu{P:Program}{w:World}{K:PySem.W.Frag}{elts:List Expr}{x1:Nat}{pos:Pos}{z TI TO i1 i2 a b:Addr}(D:ZipApart z TI TO i1 i2 a b):Turn P w K (.Tuple elts x1 pos) (Itz K a b) [z,TI,TO,i1,i2] z (Zs z TI TO i1 i2 a b) where
 mem:=by simp
 obj:=fun i h st c hc=>by
  obtain⟨s1,s2,⟨x,y,s3⟩,⟨o4,s4,c4,d4⟩,⟨o5,s5,c5,d5⟩⟩:=st;simp only[List.mem_cons,List.not_mem_nil,or_false]at hc;rcases hc with rfl|rfl|rfl|rfl|rfl
  ·exact⟨_,s1,fun v z=>by cases z⟩
  ·exact⟨_,s2,fun v z=>by cases z⟩
  ·exact⟨_,s3,fun v z=>by cases z⟩
  ·exact⟨o4,s4,fun v z=>by rw[d4]at z;cases z⟩
  ·exact⟨o5,s5,fun v z=>by rw[d5]at z;cases z⟩
 keep:=fun i h h' st k=>by
  obtain⟨s1,s2,⟨x,y,s3⟩,s4,s5⟩:=st;exact⟨k z (by simp) _ s1,k TI (by simp) _ s2,⟨x,y,k TO (by simp) _ s3⟩,s4.at fun o e=>k i1 (by simp) o e,s5.at fun o e=>k i2 (by simp) o e⟩
 item:=by
  intro X hP hw hK hc i AD s σ H E I hf st hg;subst hP hw hK;obtain⟨xs,ys,x,y,YW,Ts,hx,hy⟩:=hg;obtain⟨TJ,YU,p1,R6⟩:=I.tuple YW;obtain⟨Mt,Za,p2,aS⟩:=I.tuple Ts;obtain⟨u1,ZZ,iz⟩:=YU.get hx;obtain⟨u2,Lj,kf⟩:=Za.get hy;obtain⟨s1,s2,s3,s4,s5⟩:=st;refine UN (by simpa using I.ok.hd hc) D ⟨s1,s2,s3,s4,s5,p1,p2⟩ (by simpa using ZZ) (by simpa using Lj) fun h1 Z1 hT hk=>?_;refine⟨_,rfl,wpAny_letOwnedTupleGo_zip (s:={ s with heap:=h1 }) Z1.hz fun h2 bJ sb=>?_⟩;have JM:∀c o,c≠z->h1.get? c=some o->h2.get? c=some o:=fun c o hb q=>sb.extBut c o hb q;have TM:H s.heap.objs.size=none:=I.hok.fresh (Nat.le_refl _);have dS:z<s.heap.objs.size:=Heap.lt_size s1;have Dr:∀c o,c∉[z,TI,TO,i1,i2]->s.heap.get? c=some o->h2.get? c=some o:=fun c o hm q=>by
   simp only[List.mem_cons,List.not_mem_nil,or_false,not_or]at hm;exact JM c o hm.1 (hk c o hm.1 hm.2.2.1 hm.2.2.2.1 hm.2.2.2.2 q)
  have PB:∀c o,H c=some o->c∉[z,TI,TO,i1,i2]:=fun c o q hm=>by
   have:=(hf c hm).1
   rw[q]at this;cases this
  have un:Un (frs X.stack) [z,TI,TO,i1,i2] H (upd H s.heap.objs.size (.tup [x,y])) s.heap h2:=by
   refine⟨fun c o q n hb hc=>Dr c o hc q,fun c o q n hb hc=>⟨o.slots,Dr c o hc q⟩,fun c o q n hc=>?_,fun c o q hc=>⟨o,Dr c o hc q⟩,fun c ys q=>?_,fun c o v q=>?_,fun c ps q=>⟨#[],?_⟩⟩
   ·rw[AR (Nat.ne_of_lt (Heap.lt_size q))];exact n
   ·rw[AR (Ab q TM)];exact q
   ·rw[AR (Ab q TM)];exact q
   ·rw[AR (Ab q TM),q];simp
  have hok:HOk X.prog X.w (upd H s.heap.objs.size (.tup [x,y])) h2:=fun c v q=>by
   by_cases hb:c=s.heap.objs.size
   ·subst hb;rw[Ax]at q;cases q;exact⟨by show 2<=sizeLine;rw[sizeLine_eq];decide,[u1,u2],.cons iz (.cons kf .nil),_,JM _ _ (Nat.ne_of_gt dS) hT,rfl,_,rfl⟩
   ·rw[AR hb]at q;refine(I.hok c v q).stay (fun e o hc r=>?_) (fun e r=>by rw[AR (Ab r TM)];exact r) fun e ys r=>by rw[AR (Ab r TM)];exact r
    rcases hc with rfl|hc
    ·exact Dr _ o (PB _ _ q) r
    ·exact Dr e o (PB _ _ hc) r
  have I1:Inv X AD σ (upd H s.heap.objs.size (.tup [x,y])) { s with heap:=h2 }:=I.call' (s':={ s with heap:=h2 }) rfl un hok I.bare fun c hb=>by
   have:=hf c hb
   exact⟨this.2.2.2.1,this.2.1,this.2.2.2.2.1,this.2.2.2.2.2⟩
  refine⟨.ref s.heap.objs.size,_,I1,rfl,⟨x,y,_,TM,rfl,rfl,fun zs WR=>by rw[I.tuple_inj WR YW];exact hx,fun zs WR=>by rw[I.tuple_inj WR Ts];exact hy⟩,⟨bJ,JM _ _ D.TIz Z1.hI,?_,Z1.h1.at fun o e=>JM _ o D.i1z e,Z1.h2.at fun o e=>JM _ o D.i2z e⟩,fun c hb=>?_⟩
  ·obtain⟨a',b',e⟩:=Z1.hO;exact⟨a',b',JM _ _ D.TOz e⟩
  ·have Ar:c<s.heap.objs.size:=by
    simp only[List.mem_cons,List.not_mem_nil,or_false]at hb;obtain⟨a',b',s3⟩:=s3;obtain⟨o4,s4,_⟩:=s4;obtain⟨o5,s5,_⟩:=s5;rcases hb with rfl|rfl|rfl|rfl|rfl
    ·exact Heap.lt_size s1
    ·exact Heap.lt_size s2
    ·exact Heap.lt_size s3
    ·exact Heap.lt_size s4
    ·exact Heap.lt_size s5
   rw[AR (Nat.ne_of_lt Ar)];exact(hf c hb).1
 done:=by
  intro X hP hw hK hc i AD s σ H E I hf st hg;subst hP hw hK;obtain⟨xs,ys,YW,Ts,ee⟩:=hg;obtain⟨TJ,YU,p1,R6⟩:=I.tuple YW;obtain⟨Mt,Za,p2,aS⟩:=I.tuple Ts;obtain⟨s1,s2,s3,s4,s5⟩:=st;have l1:=YU.length;have l2:=Za.length;refine VP (by simpa using I.ok.hd hc) D ⟨s1,s2,s3,s4,s5,p1,p2⟩ (ee.imp (fun h=>by simp;lia) fun h=>by simp;lia) fun h' hk=>⟨rfl,?_⟩;have Dr:∀c o,c∉[z,TI,TO,i1,i2]->s.heap.get? c=some o->h'.get? c=some o:=fun c o hm q=>by
   simp only[List.mem_cons,List.not_mem_nil,or_false,not_or]at hm;exact hk c o hm.1 hm.2.2.1 hm.2.2.2.1 hm.2.2.2.2 q
  have PB:∀c o,H c=some o->c∉[z,TI,TO,i1,i2]:=fun c o q hm=>by
   have:=(hf c hm).1
   rw[q]at this;cases this
  refine I.call' (s':={ s with heap:=h' }) rfl ⟨fun c o q n hb hc=>Dr c o hc q,fun c o q n hb hc=>⟨o.slots,Dr c o hc q⟩,fun c o q n hc=>n,fun c o q hc=>⟨o,Dr c o hc q⟩,fun c ys q=>q,fun c o v q=>q,fun c ps q=>⟨#[],by rw[q];simp⟩⟩ (fun c v q=>?_) I.bare fun c hb=>?_
  ·refine(I.hok c v q).stay (fun e o hc r=>?_) (fun e r=>r) fun e ys r=>r;rcases hc with rfl|hc
   ·exact Dr _ o (PB _ _ q) r
   ·exact Dr e o (PB _ _ hc) r
  ·have:=hf c hb
   exact⟨this.2.2.2.1,this.2.1,this.2.2.2.2.1,this.2.2.2.2.2⟩
 self:=fun A i s Q E st h=>wpAny_pyIter_zip st.1 h
def Ec(l m:List Dat):List Dat:=(l.zip m).map fun p=>.tup [p.1,p.2]
theorem Pe{l m:List Dat}{i:Nat}{d:Dat}(h:(Ec l m)[i]?=some d):∃x y,l[i]?=some x/\m[i]?=some y/\d=.tup [x,y]:=by unfold Ec at h;rw[List.getElem?_map]at h;obtain⟨p,hp,rfl⟩:=Option.map_eq_some_iff.mp h;rw[List.getElem?_zip_eq_some]at hp;exact⟨p.1,p.2,hp.1,hp.2,rfl⟩
theorem bq{K:PySem.W.Frag}{G:Gs}{l m:List Dat}{H:Hp}{a b:Addr}{vs ws:List V}(h1:SqT K (hid H G) a vs)(r1:RepL K (hid H G) l vs)(h2:SqT K (hid H G) b ws)(r2:RepL K (hid H G) m ws):Wk K (Itz K a b) H G (Ec l m):=by
 intro H' G' e;have P9:=An AJ (An e.hid h1);have Tg:=An AJ (An e.hid h2);refine⟨fun i d hd=>?_,vs,ws,P9,Tg,?_⟩
 ·obtain⟨x,y,hx,hy,rfl⟩:=Pe hd;obtain⟨v,hv,rv⟩:=r1.get hx;obtain⟨u,hu,ru⟩:=r2.get hy;refine⟨⟨vs,ws,v,u,P9,Tg,hv,hu⟩,fun xx Xh hh=>?_⟩;obtain⟨x',y',T,hT,rfl,rfl,g1,g2⟩:=hh;have e1:=g1 vs P9;have e2:=g2 ws Tg;rw[hv]at e1;rw[hu]at e2;cases e1;cases e2;refine⟨Ext.alloc hT,fun o=>o.alloc hT,fun o=>?_⟩;rw[Rep];exact⟨T,[v,u],rfl,SqT.of (EY (o.free hT) Ax),RepL.cons ((rv.same e.hid).same (Ext.alloc hT).hid) (RepL.cons ((ru.same e.hid).same (Ext.alloc hT).hid) RepL.nil)⟩
 ·have l1:=r1.length;have l2:=r2.length;unfold Ec;rw[List.length_map,List.length_zip,l1,l2];lia
section
variable {X:Cx}{ρ:Rho}{G:Gs}{a b:Expr}{l m:List Dat}{pos p1:Pos}{elts:List Expr}{x1:Nat}{cE:Pos}
theorem bz{Q:List Dat->Gs->Prop}(hm:X.mg "zip"=none)(ha:PX X ρ G a (.tup l))(hb:PX X ρ G b (.tup m))(q:Q (Ec l m) G)(hg:Gl X "zip":=by rfl)(he:starEach [a,b] X.env=(false,eval a X.env)::starEach [b] X.env:=by rfl)(he2:starEach [b] X.env=(false,eval b X.env)::starEach [] X.env:=by rfl)(hpl:(backTo pos (starEach [b] X.env)).any (·.1)=false:=by rfl):WI X ρ G (.Tuple elts x1 cE) (.Call (.Name "zip" p1) [a,b] [] pos) Q:=by
 intro AD s σ H I S;refine wpAny_Call_Name_kw (Cv I hg hm (by decide +kernel:bootBuiltins "zip"=some (.type "zip")) ?_ (by decide) (by decide));have IG:PXs X ρ G [a,b] [.tup l,.tup m]:=AB ha (AB hb AE he2) he;refine PyProof.Rows.callWith_type1 (thn (IG pos AD s σ H I S) fun us s1 ⟨vs,H1,I1,rv,d',G1,e1,o1,rep,q1,q2⟩=>?_) he hpl;subst q1;subst q2;rw[RepL]at rep;obtain⟨v1,r1,rfl,ra,rep⟩:=rep;rw[RepL]at rep;obtain⟨v2,r2,rfl,rb,rep⟩:=rep;rw[RepL]at rep;subst rep;rw[Rep]at ra rb;obtain⟨pa,as,rfl,h1,g1⟩:=ra;obtain⟨pb,bs,rfl,h2,g2⟩:=rb;obtain⟨u1,u2,rfl,ir,jF⟩:=HL rv;cases ir;cases jF;obtain⟨TJ,YU,gA,R6⟩:=I1.tuple (An AJ h1);obtain⟨Mt,Za,gh,aS⟩:=I1.tuple (An AJ h2);have la:pa<s1.heap.objs.size:=by obtain⟨o,ho,_⟩:=gA;exact Heap.lt_size ho
 have lb:pb<s1.heap.objs.size:=by obtain⟨o,ho,_⟩:=gh;exact Heap.lt_size ho
 refine UJ (show s1.heap.IsTuple pa TJ.toArray from gA) (show s1.heap.IsTuple pb Mt.toArray from gh) fun h' Z hk=>?_;refine wpAny_pyIter_zip (s:={ s1 with heap:=h' }) Z.hz ?_;have D:=zipApart_new la lb;refine⟨s1.heap.objs.size+4,[s1.heap.objs.size+4,s1.heap.objs.size+2,s1.heap.objs.size+3,s1.heap.objs.size,s1.heap.objs.size+1],_,_,H1,rfl,I1.kept (t':=s1.toks) hk,Vu D,⟨Z.hz,Z.hI,Z.hO,Z.h1,Z.h2⟩,fun c hc=>?_,Ec l m,G1,e1,o1,bq h1 g1 h2 g2,q⟩;have hle:s1.heap.objs.size<=c:=by
  simp only[List.mem_cons,List.not_mem_nil,or_false]at hc;rcases hc with rfl|rfl|rfl|rfl|rfl
  ·exact Nat.le_add_right _ 4
  ·exact Nat.le_add_right _ 2
  ·exact Nat.le_add_right _ 3
  ·exact Nat.le_refl _
  ·exact Nat.le_add_right _ 1
 exact I1.fpOk hle (I1.hok.fresh hle)
end
def Xo(l:List Dat):Bool:=(l.zip (l.drop 1)).all fun p=>CK true p.1 p.2
def PH:SpD:=fun ds G R=>∃l:List Dat,ds=[.tup l]/\l.length<=1000/\(∀p∈l.zip (l.drop 1),Bz 9 p.1 p.2=true/\AH 9 p.1=true/\AH 9 p.2=true)/\R (.bl (Xo l)) G
theorem Xd:∀F:List Sq,Xo (F.map sq)=true↔F.Pairwise AZ
 |[]=>⟨fun _=>.nil,fun _=>rfl⟩
 |[a]=>⟨fun _=>List.pairwise_singleton _ _,fun _=>rfl⟩
 |a::b::r=>by
  have ih:=Xd (b::r);have e:Xo ((a::b::r).map sq)=(CK true (sq a) (sq b)&&Xo ((b::r).map sq)):=rfl;rw[e,Bool.and_eq_true,ih,XO,decide_eq_true_eq,List.pairwise_cons (l:=b::r)];constructor
  ·rintro⟨h1,h2⟩;refine⟨fun c hc=>?_,h2⟩;rcases List.mem_cons.mp hc with rfl|hc
   ·exact h1
   ·exact CN h1 ((List.pairwise_cons.mp h2).1 c hc)
  ·rintro⟨h1,h2⟩;exact⟨h1 b (List.mem_cons_self ..),h2⟩
theorem Yi(F:List Sq):∀p∈(F.map sq).zip ((F.map sq).drop 1),Bz 9 p.1 p.2=true/\AH 9 p.1=true/\AH 9 p.2=true:=by intro p hp;obtain⟨h1,h2⟩:=List.of_mem_zip (a:=p.1) (b:=p.2) hp;obtain⟨x,_,e1⟩:=List.mem_map.mp h1;obtain⟨y,_,e2⟩:=List.mem_map.mp (List.mem_of_mem_drop h2);rw[<-e1,<-e2];exact⟨rfl,Am x 8,Am y 8⟩
end TF
namespace TF
section
variable {F:List Sq}{h:Lay->Sq->Int}{l m:Lay}
def apart(h:Lay->Sq->Int)(K:List Sq)(l m:Lay):Nat:=(K.map fun y=>(h l y-h m y).natAbs).sum
structure Cors (F K:List Sq):Prop where
 nd:K.Nodup
 iff:∀y,y∈K↔∃x∈F,y∈cor x
variable {K:List Sq}
theorem Wf{K:List Sq}{f:Sq->Nat}(h:∀y∈K,f y%4=0):(K.map f).sum%4=0:=by
 induction K with
 |nil=>rfl
 |cons a K ih=>
  rw[List.map_cons,List.sum_cons];have h1:=h a (List.mem_cons_self ..);have h2:=ih fun y hy=>h y (List.mem_cons_of_mem _ hy);lia
theorem Pl.apart4(P:Pl F h)(C:Cors F K)(I:IsLay F l)(J:IsLay F m):apart h K l m%4=0:=Wf fun y hy=>by
 obtain⟨x,hx,YO⟩:=(C.iff y).mp hy
 have:=P.four I J hx YO
 lia
def Iv(c:Sq):List (Sq×Sq×Sq):=[((c.1-1,c.2),(c.1-1,c.2-1),(c.1-1,c.2)),((c.1,c.2-1),(c.1,c.2-1),(c.1-1,c.2-1)),((c.1,c.2+1),(c.1-1,c.2),(c.1,c.2)),((c.1+1,c.2),(c.1,c.2),(c.1,c.2-1))]
def Lz(F:List Sq)(l:Lay)(a b:Sq):Bool:=(F.contains a||F.contains b)&&!l.contains (El a b,Em a b)
def Bx(F:List Sq)(l:Lay)(c:Sq):List (Sq×Int):=((Iv c).filter fun t=>Lz F l t.2.1 t.2.2).map fun t=>(t.1,sgn t.2.1)
theorem Bc{c y:Sq}{v:Int}:(y,v)∈Bx F l c ↔
  (y=(c.1-1,c.2)/\v=sgn (c.1-1,c.2-1)/\((c.1-1,c.2-1)∈F\/(c.1-1,c.2)∈F)/\((c.1-1,c.2-1),(c.1-1,c.2))∉l) ∨
  (y=(c.1,c.2-1)/\v=sgn (c.1,c.2-1)/\((c.1,c.2-1)∈F\/(c.1-1,c.2-1)∈F)/\((c.1-1,c.2-1),(c.1,c.2-1))∉l) ∨
  (y=(c.1,c.2+1)/\v=sgn (c.1-1,c.2)/\((c.1-1,c.2)∈F\/(c.1,c.2)∈F)/\((c.1-1,c.2),(c.1,c.2))∉l) ∨
  (y=(c.1+1,c.2)/\v=sgn (c.1,c.2)/\((c.1,c.2)∈F\/(c.1,c.2-1)∈F)/\((c.1,c.2-1),(c.1,c.2))∉l):=by
 have a1:¬AZ (c.1-1,c.2) (c.1-1,c.2-1):=by unfold AZ;dsimp only;lia
 have a2:AZ (c.1-1,c.2-1) (c.1-1,c.2):=by unfold AZ;dsimp only;lia
 have b1:AZ (c.1-1,c.2-1) (c.1,c.2-1):=by unfold AZ;dsimp only;lia
 have b2:¬AZ (c.1,c.2-1) (c.1-1,c.2-1):=by unfold AZ;dsimp only;lia
 have c1:¬AZ (c.1,c.2) (c.1-1,c.2):=by unfold AZ;dsimp only;lia
 have c2:AZ (c.1-1,c.2) (c.1,c.2):=by unfold AZ;dsimp only;lia
 have d1:AZ (c.1,c.2-1) (c.1,c.2):=by unfold AZ;dsimp only;lia
 have d2:¬AZ (c.1,c.2) (c.1,c.2-1):=by unfold AZ;dsimp only;lia
 unfold Bx Iv;simp only[List.mem_map,List.mem_filter,List.mem_cons,List.not_mem_nil,or_false,Lz,Bool.and_eq_true,Bool.or_eq_true,Bool.not_eq_true',List.contains_eq_mem,decide_eq_true_eq,decide_eq_false_iff_not,Prod.mk.injEq];constructor
 ·rintro⟨t,⟨ht,hf,hl⟩,e1,e2⟩;subst e1 e2;rcases ht with rfl|rfl|rfl|rfl
  ·simp only[El,Em,if_neg a1,if_pos a2]at hl;exact .inl ⟨rfl,rfl,hf,hl⟩
  ·simp only[El,Em,if_pos b1,if_neg b2]at hl;exact .inr (.inl ⟨rfl,rfl,hf,hl⟩)
  ·simp only[El,Em,if_neg c1,if_pos c2]at hl;exact .inr (.inr (.inl ⟨rfl,rfl,hf,hl⟩))
  ·simp only[El,Em,if_pos d1,if_neg d2]at hl;exact .inr (.inr (.inr ⟨rfl,rfl,hf,hl⟩))
 ·rintro(⟨rfl,rfl,hf,hl⟩|⟨rfl,rfl,hf,hl⟩|⟨rfl,rfl,hf,hl⟩|⟨rfl,rfl,hf,hl⟩)
  ·exact⟨_,⟨.inl rfl,hf,by simp only[El,Em,if_neg a1,if_pos a2];exact hl⟩,rfl,rfl⟩
  ·exact⟨_,⟨.inr (.inl rfl),hf,by simp only[El,Em,if_pos b1,if_neg b2];exact hl⟩,rfl,rfl⟩
  ·exact⟨_,⟨.inr (.inr (.inl rfl)),hf,by simp only[El,Em,if_neg c1,if_pos c2];exact hl⟩,rfl,rfl⟩
  ·exact⟨_,⟨.inr (.inr (.inr rfl)),hf,by simp only[El,Em,if_pos d1,if_neg d2];exact hl⟩,rfl,rfl⟩
theorem Fe{a b:Sq}(h:(a,b)∉l):crs l a b=1:=if_neg h
theorem Pl.side(P:Pl F h)(I:IsLay F l){c:Sq}{p:Sq×Int}(hp:p∈Bx F l c):h l p.1=h l c+p.2:=by
 obtain⟨y,v⟩:=p;obtain⟨r,c⟩:=c;rcases Bc.mp hp with⟨rfl,rfl,hf,hl⟩|⟨rfl,rfl,hf,hl⟩|⟨rfl,rfl,hf,hl⟩|⟨rfl,rfl,hf,hl⟩
 ·have:=P.dn I (x:=(r-1,c)) hf.symm
  have e:=VQ (r-1) (c-1);simp only[Int.sub_add_cancel]at this e;unfold V0 at this;rw[Fe hl]at this;simp only at this ⊢;lia
 ·have:=P.rt I (x:=(r,c-1)) hf
  simp only[Int.sub_add_cancel]at this;unfold H0 at this;rw[Fe hl]at this;simp only at this ⊢;lia
 ·have:=P.rt I (x:=(r,c)) hf.symm
  have e:=VT (r-1) c;simp only[Int.sub_add_cancel]at e;unfold H0 at this;rw[Fe hl]at this;simp only at this ⊢;lia
 ·have:=P.dn I (x:=(r,c)) hf
  unfold V0 at this;rw[Fe hl]at this;simp only at this ⊢;lia
theorem Ss{c:Sq}{p:Sq×Int}(hp:p∈Bx F l c):∃x∈F,p.1∈cor x:=by obtain⟨y,v⟩:=p;obtain⟨r,c⟩:=c;rcases Bc.mp hp with⟨rfl,rfl,hf,hl⟩|⟨rfl,rfl,hf,hl⟩|⟨rfl,rfl,hf,hl⟩|⟨rfl,rfl,hf,hl⟩<;>rcases hf with hf|hf<;>refine⟨_,hf,AU.mpr ?_⟩<;>simp
theorem fK{p1 p2 p3 p4 a b c d:Prop}(i1:¬p1->(a↔b))(i2:¬p2->(a↔c))(i3:¬p3->(c↔d))(i4:¬p4->(b↔d))(e1:p1->¬p2/\¬p3/\¬p4)(e2:p2->¬p3/\¬p4)(e3:p3->¬p4)(h:a\/b\/c\/d):a/\b/\c/\d:=by
 by_cases h1:p1
 ·obtain⟨n2,n3,n4⟩:=e1 h1
  have:=i2 n2;have:=i3 n3;have:=i4 n4
  clear i1 i2 i3 i4 e1 e2 e3
  grind
 ·have k1:=i1 h1;by_cases h2:p2
  ·obtain⟨n3,n4⟩:=e2 h2
   have:=i3 n3;have:=i4 n4
   clear i1 i2 i3 i4 e1 e2 e3
   grind
  ·have k2:=i2 h2;by_cases h3:p3
   ·have:=i4 (e3 h3)
    clear i1 i2 i3 i4 e1 e2 e3
    grind
   ·have:=i3 h3
    clear i1 i2 i3 i4 e1 e2 e3
    grind
theorem VE(nd:F.Nodup)(I:IsLay F l)(S:Sq->Prop)(cl:∀c,S c->∀p∈Bx F l c,S p.1){x:Sq}(hx:x∈F)(hy:∃y∈cor x,S y):∀y∈cor x,S y:=by
 obtain⟨r,c⟩:=x;have go:∀{a y:Sq}{v:Int},(y,v)∈Bx F l a->S a->S y:=fun h s=>cl _ s _ h;have dW:∀s t:ED,s≠t->((r,c)=s.1\/(r,c)=s.2)->((r,c)=t.1\/(r,c)=t.2)->s∈l->t∉l:=fun s t Bq h1 h2 hs ht=>Bq (Ri nd I hs ht h1 h2);have key:=fK (p1:=((r-1,c),(r,c))∈l) (p2:=((r,c-1),(r,c))∈l) (p3:=((r,c),(r+1,c))∈l) (p4:=((r,c),(r,c+1))∈l) (a:=S (r,c)) (b:=S (r,c+1)) (c:=S (r+1,c)) (d:=S (r+1,c+1))
  (fun n=>⟨go (Bc.mpr (.inr (.inr (.inl ⟨rfl,rfl,.inr hx,n⟩)))),go (v:=sgn (r,c)) (Bc.mpr (.inr (.inl ⟨by simp,by simp,.inl (by simpa using hx),by simpa using n⟩)))⟩)
  (fun n=>⟨go (Bc.mpr (.inr (.inr (.inr ⟨rfl,rfl,.inl hx,n⟩)))),go (v:=sgn (r,c-1)) (Bc.mpr (.inl ⟨by simp,by simp,.inr (by simpa using hx),by simpa using n⟩))⟩)
  (fun n=>⟨go (v:=sgn (r,c)) (Bc.mpr (.inr (.inr (.inl ⟨rfl,by simp,.inl (by simpa using hx),by simpa using n⟩)))),go (v:=sgn (r+1,c)) (Bc.mpr (.inr (.inl ⟨by simp,by simp,.inr (by simpa using hx),by simpa using n⟩)))⟩)
  (fun n=>⟨go (v:=sgn (r,c+1)) (Bc.mpr (.inr (.inr (.inr ⟨rfl,by simp,.inr (by simpa using hx),by simpa using n⟩)))),go (v:=sgn (r,c)) (Bc.mpr (.inl ⟨by simp,by simp,.inl (by simpa using hx),by simpa using n⟩))⟩)
  (fun k=>⟨dW _ _ (by simp;lia) (.inr rfl) (.inr rfl) k,dW _ _ (by simp;lia) (.inr rfl) (.inl rfl) k,dW _ _ (by simp;lia) (.inr rfl) (.inl rfl) k⟩)
  (fun k=>⟨dW _ _ (by simp;lia) (.inr rfl) (.inl rfl) k,dW _ _ (by simp;lia) (.inr rfl) (.inl rfl) k⟩)
  (fun k=>dW _ _ (by simp;lia) (.inl rfl) (.inl rfl) k)
  (by
   obtain⟨y,hy,hs⟩:=hy;rcases AU.mp hy with rfl|rfl|rfl|rfl
   ·exact .inl hs
   ·exact .inr (.inl hs)
   ·exact .inr (.inr (.inl hs))
   ·exact .inr (.inr (.inr hs)))
 intro y hy;rcases AU.mp hy with rfl|rfl|rfl|rfl
 ·exact key.1
 ·exact key.2.1
 ·exact key.2.2.1
 ·exact key.2.2.2
theorem Sv(nd:F.Nodup)(I:IsLay F l)(S:Sq->Prop)(cl:∀c,S c->∀p∈Bx F l c,S p.1){s:Sq}(hs:s∈F)(h0:S s)(hang:∀x∈F,Con nbR (·∈F) s x):∀x∈F,∀y∈cor x,S y:=by
 have key:∀x,Con nbR (·∈F) s x->x∈F->∀y∈cor x,S y:=by
  intro x hx
  induction hx with
  |base=>exact fun _=>VE nd I S cl hs ⟨s,AU.mpr (.inl rfl),h0⟩
  |step hx hn hg ih=>
   rename_i x y;intro Wh;have aT:x∈F:=hx.in hs;have k:=ih aT;obtain⟨r,c⟩:=x;have TV:y∈nbM (r,c):=hn;simp only[nbM,List.mem_cons,List.not_mem_nil,or_false]at TV;refine VE nd I S cl Wh ?_;rcases TV with rfl|rfl|rfl|rfl
   ·exact⟨(r,c),AU.mpr (by simp),k _ (AU.mpr (by simp))⟩
   ·exact⟨(r,c),AU.mpr (by simp),k _ (AU.mpr (by simp))⟩
   ·exact⟨(r,c+1),AU.mpr (by simp),k _ (AU.mpr (by simp))⟩
   ·exact⟨(r+1,c),AU.mpr (by simp),k _ (AU.mpr (by simp))⟩
 exact fun x hx=>key x (hang x hx) hx
theorem CJ(gd:Good F):F.headD (0,0)∈F:=by
 cases F with
 |nil=>exact absurd rfl gd.ne
 |cons a r=>exact List.mem_cons_self ..
theorem Ku(gd:Good F){x:Sq}(hx:x∈F):x=F.headD (0,0)\/AZ (F.headD (0,0)) x:=by
 cases F with
 |nil=>exact absurd rfl gd.ne
 |cons a r=>
  rcases List.mem_cons.mp hx with rfl|hx
  ·exact .inl rfl
  ·exact .inr ((List.pairwise_cons.mp gd.up).1 x hx)
theorem Mn(gd:Good F)(hp:Be F=true):∀x∈F,Con nbR (·∈F) (F.headD (0,0)) x:=by unfold Be JA at hp;simp only[Bool.and_eq_true,beq_iff_eq]at hp;exact((IA (R:=nbR) (g:=(·∈F)) gd.nodup (fun x=>Iff.rfl) (CJ gd)).2.mp (by lia))
theorem eK(gd:Good F)(hp:Be F=true):∃h,Pl F h:=by
 have hg:=Mn gd hp;unfold Be DS at hp;simp only[Bool.and_eq_true,beq_iff_eq,Bool.not_eq_true']at hp;obtain⟨_,h2,h3⟩:=hp;rw[J1]at h3;have m1:g2 F (-1,-1):=⟨by decide,fun hm=>by have:=gd.inn _ hm;simp at this⟩;have bl:=OA gd;have ca:=(IA (R:=n9R) (s:=(-1,-1)) (B:=(DQ (-1) (-1) 10 10).filter fun q=>!F.contains q) ((CD (Ky (-1) (-1) 10 10)).filter _) (g:=g2 F) (fun x=>by
  rw[List.mem_filter,Cd];simp only[Bool.not_eq_true',List.contains_eq_mem,decide_eq_false_iff_not,g2];constructor
  ·rintro⟨a,b⟩;exact⟨by lia,b⟩
  ·rintro⟨a,b⟩;exact⟨by lia,b⟩) m1).2.mp (by lia)
 have hB:=VO gd h3 fun x hx=>(ca x hx).mono (fun a b IG=>QP.mp IG) fun _ h=>h;obtain⟨h,H⟩:=bH gd.nodup gd.inn hB;exact⟨h,gd,H,_,CJ gd,hg⟩
def Aq(F:List Sq):List Sq:=(DQ 0 0 9 9).filter fun y=>F.any fun x=>(cor x).contains y
theorem DT(F:List Sq):(Aq F).Pairwise AZ:=(Ky 0 0 9 9).sublist List.filter_sublist
theorem Bu(gd:Good F){y:Sq}:y∈Aq F↔∃x∈F,y∈cor x:=by
 unfold Aq;rw[List.mem_filter,Cd,List.any_eq_true];simp only[List.contains_eq_mem,decide_eq_true_eq];refine⟨fun h=>h.2,fun h=>⟨?_,h⟩⟩;obtain⟨x,hx,hy⟩:=h
 have:=gd.inn x hx
 rcases AU.mp hy with rfl|rfl|rfl|rfl<;>(try simp only)<;>lia
theorem Yv(gd:Good F):Cors F (Aq F):=⟨CD (DT F),fun y=>Bu gd⟩
theorem TH(gd:Good F):∃t,Aq F=F.headD (0,0)::t:=by
 have hm:F.headD (0,0)∈Aq F:=(Bu gd).mpr ⟨_,CJ gd,AU.mpr (.inl rfl)⟩;have U0:∀y∈Aq F,¬AZ y (F.headD (0,0)):=by
  intro y hy Ar;obtain⟨x,hx,hc⟩:=(Bu gd).mp hy
  have:=Ku gd hx
  have JP:x=F.headD (0,0)\/AZ (F.headD (0,0)) x:=this;have:y=x\/AZ x y:=by
   rcases AU.mp hc with rfl|rfl|rfl|rfl
   ·exact .inl rfl
   all_goals (right;unfold AZ;dsimp only;lia)
  have h3:¬AZ x (F.headD (0,0)):=fun h=>by
   rcases JP with e|e
   ·rw[e]at h;exact A4 _ h
   ·exact A4 _ (CN h e)
  rcases this with rfl|h4
  ·exact h3 Ar
  ·exact h3 (CN h4 Ar)
 cases e:Aq F with
 |nil=>rw[e]at hm;cases hm
 |cons a t=>
  rw[e]at hm;rcases List.mem_cons.mp hm with h1|h1
  ·exact⟨t,by rw[h1]⟩
  ·have up:=DT F;rw[e]at up;exact absurd ((List.pairwise_cons.mp up).1 _ h1) (U0 a (by rw[e];exact List.mem_cons_self ..))
theorem HI(F:List Sq):(Aq F).length<=81:=by
 have:=List.length_filter_le (fun y=>F.any fun x=>(cor x).contains y) (DQ 0 0 9 9)
 rw[Hb]at this;exact this
end
end TF
namespace TF
open PySem PySem.Spec L2
open PyProof.Rows hiding St RelV
section
variable {prog:Program}{w:World}{A:Around}{E:Value->Shared->Prop}{s:Shared}{it d:Addr}{od:Obj}{es:Array DictEntry}{i ep:Nat}
def itO(x y:Value)(d:Addr)(i n ep:Nat)(u v:Value):Obj:={ cls:=.type "dict_itemiterator",dict:=none,data:=.fields #[x,y,.ref d,.int i 0,.int n 0,.int ep 0,u,v],slots:=#[] }
theorem VY{x y u v:Value}{n:Nat}(hit:s.heap.get? it=some (itO x y d i n ep u v)):s.TypeIs (.ref it) "dict_itemiterator":=⟨_,hit,rfl⟩
theorem YK{x y u v:Value}{Q:Option Value->Shared->Prop}(hit:s.heap.get? it=some (itO x y d i es.size ep u v))(Np:s.heap.get? d=some od)(D1:od.data=.dict es ep)(hi:i<es.size)(h:∀h1,h1.get? it=some (itO x y d (i+1) es.size ep u v)->Heap.SameBut it s.heap h1->∀(A':Around)(E':Value->Shared->Prop),wpAny (model prog w) A' (Builtin.Dict_items.pairFromOwner (.ref it) 6 es[i].key es[i].val) (fun r s'=>Q (some r) s') E' { s with heap:=h1 }) :
  wpAny (model prog w) A (pyNext (.ref it)) Q E s:=by
 have ty:=VY hit;have own:Builtin.Dict_items.ownsTuple "dict_itemiterator"=true:=by decide
 unfold pyNext;refine wpAny_bind (wpAny_attempt (wpAny_callSpecial?_slot (name:=Str.ofString "__next__") ty F.slot_dict_itemiterator_next (wpAny_call_entry F.slot_dict_itemiterator_next ty F.entry_dict_itemiterator_next ?_ (F.args_dict_itemiterator_next_1 _))));refine wpAny_bind (wpAny_pure (wpAny_bind (wpAny_bind ?_)));refine wpAny_bind (wpAny_typeNameOfWhole_itemiter ty (wpAny_pure (wpAny_bind (wpAny_fieldsOf hit rfl ?_))));simp only[own,if_true];show wpAny _ _ (if (Value.ref d==Value.none)=true then _ else _) _ _ _;rw[if_neg (show ¬(Value.ref d==Value.none)=true from nofun)];refine wpAny_bind (wpAny_pure (wpAny_bind (wpAny_dictEntries Np D1 ?_)));rw[if_neg (by simp)];refine wpAny_bind (wpAny_pure (wpAny_bind (wpAny_dictEpoch Np D1 ?_)));rw[if_neg (by simp)];refine wpAny_pure ?_;simp only[show ¬((i:Int)<0) by lia,if_false,Int.toNat_natCast,Array.getElem?_eq_getElem hi];refine wpAny_bind (wpAny_bind (wpAny_typeNameOfWhole_itemiter ty (wpAny_pure (wpAny_bind (wpAny_isOneOf_itemiter ty ?_)))));show wpAny _ _ (setField (.ref it) 3 (rawInt ((i:Int)+1)) >>= _) _ _ _;refine wpAny_bind (wpAny_setField_rec hit (by simp) fun h1 g1 k1=>?_);have g2:h1.get? it=some (itO x y d (i+1) es.size ep u v):=by
  have e:((i+1:Nat):Int)=(i:Int)+1:=by lia
  unfold itO;rw[e];simpa[rawInt]using g1
 have nC:Shared.TypeIs { s with heap:=h1 } (.ref it) "dict_itemiterator":=⟨_,g2,rfl⟩;refine wpAny_bind (wpAny_holding (wpAny_bind (wpAny_isOneOf_itemiter nC (wpAny_bind (wpAny_isOneOf_itemiter nC ?_)))));refine wpAny_mono (h h1 g2 k1 _ _) (fun r s' q=>?_) (fun _ _ z=>z);exact wpAny_pure ⟨_,rfl,wpAny_pure q⟩
def ItS(h:Heap)(it d:Addr)(i n ep:Nat):Prop:=∃x y u v,h.get? it=some (itO x y d i n ep u v)/\(x=.none\/∃(a:Addr)(oa:Obj),x=rawInt a/\h.get? a=some oa/\it<a)/\∃b,y=.bool b
theorem Wt{key val:Value}{n:Nat}{Q:Value->Shared->Prop}(hs:ItS s.heap it d i n ep)(h:∀h',ItS h' it d i n ep->h'.get? s.heap.objs.size=some { cls:=.type "tuple",data:=.seq #[key,val] }->h'.objs.size=s.heap.objs.size+1->(∀b o,b≠it->s.heap.get? b=some o->h'.get? b=some o)->Q (.ref s.heap.objs.size) { s with heap:=h' }) :
  wpAny (model prog w) A (Builtin.Dict_items.pairFromOwner (.ref it) 6 key val) Q E s:=by
 obtain⟨x,y,u,v,hit,hx,b,rfl⟩:=hs;have lW:it<s.heap.objs.size:=Heap.lt_size hit;unfold Builtin.Dict_items.pairFromOwner;refine wpAny_bind (wpAny_newTuple ?_);obtain⟨h2,d8⟩:∃h2,h2=s.heap.push { cls:=.type "tuple",data:=.seq #[key,val] }:=⟨_,rfl⟩;have t2:h2.get? s.heap.objs.size=some { cls:=.type "tuple",data:=.seq #[key,val] }:=by rw[d8];exact Heap.get?_push_size _ rfl
 have z2:h2.objs.size=s.heap.objs.size+1:=by rw[d8,Heap.size_push]
 have k2:∀c o,s.heap.get? c=some o->h2.get? c=some o:=fun c o e=>by rw[d8];exact Heap.get?_push_of_some _ e
 have g2:=k2 _ _ hit;show wpAny _ _ (Builtin.Dict_items.ownedTupleIsFree (.ref it) >>= _) _ _ { s with heap:=s.heap.push { cls:=.type "tuple",data:=.seq #[key,val] } };rw[<-d8];clear d8;have dO:s.heap.objs.size≠it:=Nat.ne_of_gt lW;unfold Builtin.Dict_items.ownedTupleIsFree;rcases hx with rfl|⟨a,oa,rfl,ha,Xy⟩
 ·refine wpAny_bind (wpAny_bind (wpAny_field g2 rfl (x:=.none) rfl (wpAny_pure ?_)));simp only[if_true];refine wpAny_bind (wpAny_field g2 rfl (x:=u) rfl (wpAny_bind (wpAny_field g2 rfl (x:=v) rfl ?_)));refine wpAny_bind (wpAny_setField_rec g2 (by simp) fun h3 g3 k3=>wpAny_bind (wpAny_setField_rec g3 (by simp) fun h4 g4 k4=>wpAny_bind (wpAny_setField_rec g4 (by simp) fun h5 g5 k5=>wpAny_bind (wpAny_setField_rec g5 (by simp) fun h6 g6 k6=>?_))));have kk:∀c o,c≠it->h2.get? c=some o->h6.get? c=some o:=fun c o hc e=>k6.extBut c o hc (k5.extBut c o hc (k4.extBut c o hc (k3.extBut c o hc e)));refine wpAny_bind (wpAny_letGo (wpAny_pure (h h6 ⟨rawInt s.heap.objs.size,.bool false,key,val,g6,.inr ⟨_,_,rfl,kk _ _ dO t2,lW⟩,false,rfl⟩ (kk _ _ dO t2) ?_ fun c o hc e=>kk c o hc (k2 c o e))));rw[k6.1,k5.1,k4.1,k3.1];exact z2
 ·have Z4:=k2 _ _ ha;refine wpAny_bind (wpAny_bind (wpAny_field g2 rfl (x:=rawInt a) rfl ?_));show wpAny _ _ (loadIfAlive ((a:Int).toNat) >>= _) _ _ _;rw[Int.toNat_natCast];refine wpAny_bind (PySem.W.kdx_alive Z4 ?_);simp only[Option.isNone_some,Bool.false_eq_true,if_false];refine wpAny_bind (wpAny_field g2 rfl (x:=.bool b) rfl ?_);cases b with
  |true=>
   rw[if_neg (show ¬(Value.bool true != Value.bool true)=true from nofun)];refine wpAny_pure ?_;simp only[Bool.false_eq_true,if_false];exact wpAny_pure (h h2 ⟨_,_,_,_,g2,.inr ⟨a,oa,rfl,Z4,Xy⟩,true,rfl⟩ t2 z2 fun c o _ e=>k2 c o e)
  |false=>
   rw[if_pos (show(Value.bool false != Value.bool true)=true from rfl)];refine wpAny_bind (wpAny_setField_rec g2 (by simp) fun h3 g3 k3=>wpAny_pure ?_);simp only[Bool.false_eq_true,if_false];refine wpAny_pure (h h3 ⟨_,_,_,_,g3,.inr ⟨a,oa,rfl,k3.extBut _ _ (Nat.ne_of_gt Xy) Z4,Xy⟩,true,rfl⟩ (k3.extBut _ _ dO t2) ?_ fun c o hc e=>k3.extBut c o hc (k2 c o e));rw[k3.1];exact z2
theorem Y2{Q:Option Value->Shared->Prop}(hs:ItS s.heap it d i es.size ep)(Np:s.heap.get? d=some od)(D1:od.data=.dict es ep)(hi:i<es.size)(Ry:d≠it)(h:∀h',ItS h' it d (i+1) es.size ep->h'.get? s.heap.objs.size=some { cls:=.type "tuple",data:=.seq #[es[i].key,es[i].val] }->h'.objs.size=s.heap.objs.size+1->(∀b o,b≠it->s.heap.get? b=some o->h'.get? b=some o)->Q (some (.ref s.heap.objs.size)) { s with heap:=h' }) :
  wpAny (model prog w) A (pyNext (.ref it)) Q E s:=by
 obtain⟨x,y,u,v,hit,hx,hy⟩:=hs;refine YK hit Np D1 hi fun h1 g1 k1 A' E'=>?_;refine Wt (s:={ s with heap:=h1 }) (i:=i+1) ⟨x,y,u,v,g1,?_,hy⟩ fun h' st t z k=>?_
 ·rcases hx with hx|⟨a,oa,e,ha,Xy⟩
  ·exact .inl hx
  ·exact .inr ⟨a,oa,e,k1.extBut a oa (Nat.ne_of_gt Xy) ha,Xy⟩
 ·have e1:h1.objs.size=s.heap.objs.size:=k1.1;simp only[e1]at t z k ⊢;exact h h' st t z fun b o hb e=>k b o hb (k1.extBut b o hb e)
theorem bj{Q:Option Value->Shared->Prop}(hh:A.handled=none)(hs:ItS s.heap it d i es.size ep)(Np:s.heap.get? d=some od)(D1:od.data=.dict es ep)(hi:es.size<=i)(h:∀h',Heap.ExtBut it s.heap h'->Q none { s with heap:=h' }):wpAny (model prog w) A (pyNext (.ref it)) Q E s:=by
 obtain⟨x,y,u,v,hit,hx,hy⟩:=hs;have ty:=VY hit;have own:Builtin.Dict_items.ownsTuple "dict_itemiterator"=true:=by decide
 unfold pyNext;refine wpAny_bind (wpAny_attempt (wpAny_callSpecial?_slot (name:=Str.ofString "__next__") ty F.slot_dict_itemiterator_next (wpAny_call_entry F.slot_dict_itemiterator_next ty F.entry_dict_itemiterator_next ?_ (F.args_dict_itemiterator_next_1 _))));refine wpAny_bind (wpAny_pure (wpAny_bind (wpAny_bind ?_)));refine wpAny_bind (wpAny_typeNameOfWhole_itemiter ty (wpAny_pure (wpAny_bind (wpAny_fieldsOf hit rfl ?_))));simp only[own,if_true];show wpAny _ _ (if (Value.ref d==Value.none)=true then _ else _) _ _ _;rw[if_neg (show ¬(Value.ref d==Value.none)=true from nofun)];refine wpAny_bind (wpAny_pure (wpAny_bind (wpAny_dictEntries Np D1 ?_)));rw[if_neg (by simp)];refine wpAny_bind (wpAny_pure (wpAny_bind (wpAny_dictEpoch Np D1 ?_)));rw[if_neg (by simp)];refine wpAny_pure ?_;simp only[show ¬((i:Int)<0) by lia,if_false,Int.toNat_natCast,Array.getElem?_eq_none hi];refine wpAny_bind (wpAny_bind (wpAny_typeNameOfWhole_itemiter ty (wpAny_pure ?_)));show wpAny _ _ (setField (.ref it) 2 .none >>= _) _ _ _;refine wpAny_bind (wpAny_setField hit rfl (by simp) ?_);show wpAny _ _ (newExc (.type "StopIteration") [] >>= _) _ _ _;refine wpAny_bind ?_;simp only[newExc,newTuple];refine wpAny_bind (wpAny_newObj_type ?_ (by size_fits));refine wpAny_bind (m:=firstArgMember _ _) (wpAny_of_eq (a:=Value.none) (by first|rfl|(simp only[firstArgMember];rfl)) (wpAny_newObj_type ?_ (by size_fits)));simp only[raiseNew];refine wpAny_bind (wpAny_handled ?_);rw[show A.in1.handled=none from hh];refine wpAny_bind (wpAny_pure (wpAny_throw (?_:wpAny _ _ _ _ _ _)));refine wpAny_bind (wpAny_isInstance (T:="StopIteration") (b:=true) ⟨_,Heap.get?_push_size _ rfl,rfl⟩ isSubtype_stop (wpAny_pure (h _ (((Heap.SameBut.update ..).extBut.push _).push _))))
theorem ItS.keep{h h':Heap}{S n:Nat}(hs:ItS h it d i n ep)(Nz:S<it)(k:∀b o,b≠S->h.get? b=some o->h'.get? b=some o):ItS h' it d i n ep:=by
 obtain⟨x,y,u,v,g,hx,hy⟩:=hs;refine⟨x,y,u,v,k _ _ (Nat.ne_of_gt Nz) g,?_,hy⟩;rcases hx with hx|⟨a,oa,e,ha,Xy⟩
 ·exact .inl hx
 ·exact .inr ⟨a,oa,e,k _ _ (Nat.ne_of_gt (Nat.lt_trans Nz Xy)) ha,Xy⟩
def U2(es:Array DictEntry)(lo:Addr)(h:Heap)(as:List Addr):Prop:=as.Pairwise (·<·)/\∀(j:Nat)(a:Addr),as[j]?=some a->lo<a/\∃e,es[j]?=some e/\h.get? a=some { cls:=.type "tuple",data:=.seq #[e.key,e.val] }
def lsO(Ae:Array Value)(c:Nat):Obj:={ cls:=.type "list",dict:=none,data:=.seq Ae c,slots:=#[] }
theorem Vp{S I:Addr}{R:Result->Shared->Prop}{h1:Heap}(hh:A.handled=none)(Nz:S<I)(qu:d≠S)(nh:d≠I)(D1:od.data=.dict es ep)(hn:es.size<=sizeLine)(res:Value)(hR:∀h' Ae c as,(∀b o,b≠S->b≠I->h1.get? b=some o->h'.get? b=some o)->h'.get? S=some (lsO Ae c)->as.length=es.size->U2 es I h' as->Ae.toList=as.map Value.ref->R (.ok (.ret res)) { s with heap:=h' }) :
  ∀(k i:Nat)(h:Heap)(c:Nat)(Ae:Array Value)(as:List Addr),es.size-i=k->i<=es.size->ItS h I d i es.size ep->h.get? d=some od->(∀b o,b≠S->b≠I->h1.get? b=some o->h.get? b=some o)->h.get? S=some (lsO Ae c)->Ae.toList=as.map Value.ref->as.length=i->U2 es I h as →
   codeAny (model prog w) A (.builtin "list.extend.loop" ⟨[.ref S,.ref I,res],[]⟩) R { s with heap:=h }:=by
 have mh:S≠I:=Nat.ne_of_lt Nz;intro k
 induction k with
 |zero=>
  intro i h c Ae as hk hi st hd keep hS Ji hl tu;refine codeAny_builtin F.entry_extend_loop ?_;rw[Around.under_plainId F.plain_extend_loop _];show wpAny _ A.in1 (pyNext (.ref I) >>= _) _ _ { s with heap:=h };refine wpAny_bind (bj (s:={ s with heap:=h }) (A:=A.in1) hh st hd D1 (by lia) fun h' ex=>?_);refine wpAny_pure (hR h' Ae c as (fun b o b1 b2 e=>ex b o b2 (keep b o b1 b2 e)) (ex S _ mh hS) (by lia) ⟨tu.1,fun j a hj=>?_⟩ Ji);obtain⟨p1,e,p2,p3⟩:=tu.2 j a hj;exact⟨p1,e,p2,ex a _ (Nat.ne_of_gt p1) p3⟩
 |succ k ih=>
  intro i h c Ae as hk hi st hd keep hS Ji hl tu;have Ar:i<es.size:=by lia
  have hsz:Ae.size=i:=by rw[<-Array.length_toList,Ji,List.length_map,hl]
  have jP:S<h.objs.size:=Heap.lt_size hS;have iI:I<h.objs.size:=by obtain⟨_,_,_,_,g,_⟩:=st;exact Heap.lt_size g
  refine codeAny_builtin F.entry_extend_loop ?_;rw[Around.under_plainId F.plain_extend_loop _];show wpAny _ A.in1 (pyNext (.ref I) >>= _) _ _ { s with heap:=h };refine wpAny_bind (Y2 (s:={ s with heap:=h }) st hd D1 Ar nh fun h' AN t z kp=>?_);dsimp only at t z kp ⊢;have JI:=kp S _ mh hS;have up:∀b o,b≠S->h'.get? b=some o->(h'.update S (Obj.mapSeq fun q=>q.push (Value.ref h.objs.size))).get? b=some o:=fun b o hb e=>(Heap.get?_update_other _ _ (Ne.symm hb)).trans e;show wpAny _ A.in1 (updateSeq S (fun q=>q.push (Value.ref h.objs.size)) >>= _) _ _ { s with heap:=h' };refine wpAny_bind ?_;refine wpAny_updateSeq JI rfl (wpAny_pure ⟨plainId_quiet F.plain_extend_loop _,ih (i+1) _ _ (Ae.push (Value.ref h.objs.size)) (as++[h.objs.size]) (by lia) Ar (AN.keep Nz up) (up d _ qu (kp d _ nh hd)) (fun b o b1 b2 e=>up b o b1 (kp b o b2 (keep b o b1 b2 e))) (Heap.get?_update_self _ JI rfl) (by rw[Array.toList_push,Ji,List.map_append];rfl) (by rw[List.length_append,hl];rfl) ?_⟩) (by rw[hsz];lia) (by show(Ae.push (Value.ref h.objs.size)).size<=sizeLine+1;rw[Array.size_push,hsz];lia);refine⟨List.pairwise_append.mpr ⟨tu.1,List.pairwise_singleton _ _,fun a ha b hb=>?_⟩,fun j b hj=>?_⟩
  ·rw[List.mem_singleton.mp hb];obtain⟨j,hj⟩:=List.mem_iff_getElem?.mp ha;obtain⟨_,_,_,p3⟩:=tu.2 j a hj;exact Heap.lt_size p3
  rw[List.getElem?_append]at hj;split at hj
  ·obtain⟨p1,e,p2,p3⟩:=tu.2 j b hj;exact⟨p1,e,p2,up b _ (Nat.ne_of_gt (Nat.lt_trans Nz p1)) (kp b _ (Nat.ne_of_gt p1) p3)⟩
  ·rename_i iF;have e0:j-as.length=0:=by
    have:=(List.getElem?_eq_some_iff.mp hj).1
    simp only[List.length_cons,List.length_nil]at this;lia
   have ej:j=i:=by lia
   rw[e0]at hj;cases hj;subst ej;exact⟨iI,es[j],Array.getElem?_eq_getElem Ar,up _ _ (Nat.ne_of_gt jP) t⟩
theorem LK{r:Addr}{Q:List Value->Shared->Prop}(hh:A.handled=none)(hv:s.heap.IsItemsView r d)(hd:s.heap.get? d=some od)(hex:od.ExactDict)(D1:od.data=.dict es ep)(hn:es.size<=sizeLine)(h:∀(h':Heap)(as:List Addr),(∀b o,s.heap.get? b=some o->h'.get? b=some o)->as.length=es.size->U2 es s.heap.objs.size h' as->Q (as.map Value.ref) { s with heap:=h' }) :
  wpAny (model prog w) A (collect (.ref r)) Q E s:=by
 have hr:r<s.heap.objs.size:=let ⟨_,ho,_⟩:=hv;Heap.lt_size ho;have jX:d<s.heap.objs.size:=Heap.lt_size hd;unfold collect;refine wpAny_bind (wpAny_runValue (codeAny_builtin F.entry_proto_collect ?_));rw[Around.under_plainId F.plain_proto_collect _];refine wpAny_bind (m:=newList []) (wpAny_newObj_type ?_);refine wpAny_pure ⟨plainId_quiet F.plain_list_iadd _,codeAny_builtin F.entry_list_iadd ?_⟩;rw[Around.under_plainId F.plain_list_iadd _];show wpAny _ A.in1 (Builtin.List.listExtendWith (.ref s.heap.objs.size) (.ref r) _) _ _ _;unfold Builtin.List.listExtendWith;obtain⟨hl,fY⟩:∃hl,hl=s.heap.push { cls:=.type "list",data:=.seq ([]:List Value).toArray }:=⟨_,rfl⟩;have zl:hl.objs.size=s.heap.objs.size+1:=by rw[fY,Heap.size_push]
 have kl:∀b o,s.heap.get? b=some o->hl.get? b=some o:=fun b o e=>by rw[fY];exact Heap.get?_push_of_some _ e
 have gS:hl.get? s.heap.objs.size=some (lsO #[] 0):=by rw[fY];exact Heap.get?_push_size _ rfl
 rw[<-fY];clear fY;obtain⟨ov,i6,ni,pE⟩:=hv;have ty:Shared.TypeIs { s with heap:=hl } (.ref r) "dict_items":=⟨ov,kl _ _ i6,ni⟩;refine wpAny_bind (wpAny_typeOf ty ?_);have n1:Builtin.List.listSameRef (.ref s.heap.objs.size) (.ref r)=false:=by
  have:s.heap.objs.size≠r:=Nat.ne_of_gt hr;simp[Builtin.List.listSameRef,this]
 have n2:(Value.type "dict_items"==Value.type "list")=false:=by decide
 have n3:(Value.type "dict_items"==Value.type "tuple")=false:=by decide
 simp only[n1,n2,n3,Bool.or_false,Bool.false_eq_true,if_false];refine wpAny_bind ?_;refine wpAny_pyIter_slot ty F.slot_dict_items_iter (wpAny_call_entry F.slot_dict_items_iter ty F.entry_dict_items_iter ?_ (F.args_dict_items_iter_1 _));unfold Builtin.«dict_items.__iter__»;refine wpAny_bind (wpAny_pure (wpAny_bind ?_));unfold Builtin.Dict_items.dictOf;refine wpAny_bind (wpAny_field (kl _ _ i6) pE (x:=.ref d) rfl (wpAny_pure (wpAny_bind ?_)));unfold Builtin.Dict_items.newIterator;refine wpAny_bind (wpAny_dictEntries (kl _ _ hd) D1 (wpAny_bind (wpAny_dictEpoch (kl _ _ hd) D1 ?_)));have own:Builtin.Dict_items.ownsTuple "dict_itemiterator"=true:=by decide
 simp only[own,if_true];refine wpAny_newObj_type (wpAny_pure ⟨_,rfl,"dict_itemiterator",_,⟨_,Heap.get?_push_size _ rfl,rfl⟩,F.slot_dict_itemiterator_next.lookup,?_⟩) (by simp only[sizeOk,Builtin.Dict_items.ownedTupleFields,List.size_toArray,List.length_append,List.length_cons,List.length_nil,sizeLine_eq];lia);obtain⟨hi,g9⟩:∃hi,hi=hl.push (itO .none (.bool false) d 0 es.size ep .none .none):=⟨_,rfl⟩;have ki:∀b o,hl.get? b=some o->hi.get? b=some o:=fun b o e=>by rw[g9];exact Heap.get?_push_of_some _ e
 have gI:hi.get? (s.heap.objs.size+1)=some (itO .none (.bool false) d 0 es.size ep .none .none):=by rw[g9,<-zl];exact Heap.get?_push_size _ rfl
 dsimp only;show wpAny _ _ _ _ _ { s with heap:=hl.push (itO .none (.bool false) d 0 es.size ep .none .none) };rw[zl,<-g9];clear g9;have oI:Shared.TypeIs { s with heap:=hi } (.ref r) "dict_items":=⟨ov,ki _ _ (kl _ _ i6),ni⟩;have nS:s.heap.objs.size≠s.heap.objs.size+1:=Nat.ne_of_lt (Nat.lt_succ_self _);have key:∀(hx:Heap)(c:Nat),(∀b o,b≠s.heap.objs.size->hi.get? b=some o->hx.get? b=some o)->hx.get? s.heap.objs.size=some (lsO #[] c)->codeAny (model prog w) A (.builtin "list.extend.loop" ⟨[.ref s.heap.objs.size,.ref (s.heap.objs.size+1),.ref s.heap.objs.size],[]⟩) (fun q s'=>∃(h':Heap)(Ae:Array Value)(c:Nat)(as:List Addr),q=.ok (.ret (.ref s.heap.objs.size))/\s'={ s with heap:=h' }/\(∀b o,s.heap.get? b=some o->h'.get? b=some o)/\h'.get? s.heap.objs.size=some (lsO Ae c)/\as.length=es.size/\U2 es (s.heap.objs.size+1) h' as/\Ae.toList=as.map Value.ref) { s with heap:=hx }:=by
  intro hx c kx gx;refine Vp (h1:=s.heap) hh (Nat.lt_succ_self _) (Nat.ne_of_lt jX) (Nat.ne_of_lt (Nat.lt_succ_of_lt jX)) D1 hn _ (fun h' Ae c as k1 k2 k3 k4 k5=>⟨h',Ae,c,as,rfl,rfl,fun b o e=>k1 b o (Nat.ne_of_lt (Heap.lt_size e)) (Nat.ne_of_lt (Nat.lt_succ_of_lt (Heap.lt_size e))) e,k2,k3,k4,k5⟩) (es.size-0) 0 hx c #[] [] rfl (Nat.zero_le _) ⟨_,_,_,_,kx _ _ (Ne.symm nS) gI,.inl rfl,false,rfl⟩ (kx _ _ (Nat.ne_of_lt jX) (ki _ _ (kl _ _ hd))) (fun b o b1 b2 e=>kx b o b1 (ki _ _ (kl _ _ e))) gx rfl rfl ⟨.nil,fun j a hj=>by simp at hj⟩
 have fin:∀(q:Result)(s':Shared),(∃(h':Heap)(Ae:Array Value)(c:Nat)(as:List Addr),q=.ok (.ret (.ref s.heap.objs.size))/\s'={ s with heap:=h' }/\(∀b o,s.heap.get? b=some o->h'.get? b=some o)/\h'.get? s.heap.objs.size=some (lsO Ae c)/\as.length=es.size/\U2 es (s.heap.objs.size+1) h' as/\Ae.toList=as.map Value.ref)->∃v,q=.ok (.ret v)/\wpAny (model prog w) A (match v with|Value.ref a=>do (match (<-load a).data with|Data.seq xs _=>pure xs.toList|_=>unsupported "internal:collect")|_=>unsupported "internal:collect") Q E s':=by
  rintro q s' ⟨h',Ae,c,as,rfl,rfl,k1,k2,k3,k4,k5⟩;refine⟨_,rfl,?_⟩;refine wpAny_bind (m:=load s.heap.objs.size) (wpAny_load k2 ?_);show wpAny _ _ (pure Ae.toList) _ _ _;rw[k5];exact wpAny_pure (h h' as k1 k3 ⟨k4.1,fun j a hj=>⟨Nat.lt_of_succ_lt (k4.2 j a hj).1,(k4.2 j a hj).2⟩⟩)
 have jh:=ki _ _ gS;refine wpAny_bind (wpAny_holding (PySem.W.kdx_hint oI ?_));have done:∀hx c,(∀b o,b≠s.heap.objs.size->hi.get? b=some o->hx.get? b=some o)->hx.get? s.heap.objs.size=some (lsO #[] c)->codeAny (model prog w) A (.builtin "list.extend.loop" ⟨[.ref s.heap.objs.size,.ref (s.heap.objs.size+1),.ref s.heap.objs.size],[]⟩) (fun q s'=>∃v,q=.ok (.ret v)/\wpAny (model prog w) A (match v with|Value.ref a=>do (match (<-load a).data with|Data.seq xs _=>pure xs.toList|_=>unsupported "internal:collect")|_=>unsupported "internal:collect") Q E s') { s with heap:=hx }:=fun hx c kx gx=>codeAny_mono (key hx c kx gx) fin;refine wpAny_ite_split (fun _=>?_) (fun _=>wpAny_pure ⟨plainId_quiet F.plain_extend_loop _,codeAny_mono (done hi 0 (fun _ _ _ e=>e) jh) fun q s' z=>?_⟩)
 ·refine wpAny_bind (wpAny_rule (wpAny_bind ?_));show wpAny _ _ (updateSeq s.heap.objs.size (fun q=>q.push .none) >>= fun _=>updateSeq s.heap.objs.size (fun q=>q.pop)) _ _ { s with heap:=hi };refine wpAny_bind (wpAny_updateSeq jh rfl ?_);have g2:=Heap.get?_update_self (Obj.mapSeq fun q=>q.push Value.none) jh rfl;refine wpAny_updateSeq (hz:=by seq_fits) g2 rfl ?_;have g3:=Heap.get?_update_self (Obj.mapSeq fun q=>q.pop) g2 rfl;refine wpAny_pure ⟨plainId_quiet F.plain_extend_loop _,codeAny_mono (done _ _ (fun b o hb e=>(Heap.get?_update_other _ _ (Ne.symm hb)).trans ((Heap.get?_update_other _ _ (Ne.symm hb)).trans e)) g3) fun q s' z=>?_⟩;obtain⟨v,rfl,hw⟩:=z;exact hw
 ·obtain⟨v,rfl,hw⟩:=z;exact hw
end
def K4(H:Hp)(L:Addr->Option (List V)):Hp:=fun a=>match L a with|some vs=>some (.tup vs)|none=>H a
theorem D3{H:Hp}{L:Addr->Option (List V)}{a:Addr}(h:L a=none):K4 H L a=H a:=by unfold K4;rw[h]
theorem Of{H:Hp}{L:Addr->Option (List V)}{a:Addr}{vs:List V}(h:L a=some vs):K4 H L a=some (.tup vs):=by unfold K4;rw[h]
theorem Inv.laidN{X:Cx}{AD:List (Addr×Obj)}{σ:St}{H:Hp}{s:Shared}{h':Heap}{t':Nat}(I:Inv X AD σ H s)(k:∀b u,s.heap.get? b=some u->h'.get? b=some u){L:Addr->Option (List V)}(hL:∀a vs,L a=some vs->s.heap.objs.size<=a/\vs.length<=sizeLine/\∃AO:List Value,Vals vs AO/\IsTup h' a AO.toArray):Inv X AD σ (K4 H L) { s with heap:=h',toks:=t' }:=by
 have U1:∀b u,s.heap.get? b=some u->L b=none:=fun b u e=>by
  cases q:L b with
  |none=>rfl
  |some vs=>exact absurd (Heap.lt_size e) (Nat.not_lt.mpr (hL b vs q).1)
 have bC:∀b u,H b=some u->L b=none:=fun b u e=>by
  cases q:L b with
  |none=>rfl
  |some vs=>exact absurd (I.hok b u e).lt (Nat.not_lt.mpr (hL b vs q).1)
 have same:∀b u,H b=some u->K4 H L b=some u:=fun b u e=>by rw[D3 (bC b u e)];exact e
 refine I.un (t':=t') ⟨fun b u q _ _ _=>k b u q,fun b u q _ _ _=>⟨u.slots,k b u q⟩,fun b u q n _=>by rw[D3 (U1 b u q)];exact n,fun b u q _=>⟨u,k b u q⟩,fun b xs q=>same b _ q,fun b u xs q=>same b _ q,fun b ps q=>⟨#[],by rw[same b _ q];simp⟩⟩ ?_;intro b u e;cases q:L b with
 |some vs=>
  rw[Of q]at e;cases e;obtain⟨_,h2,AO,h3,h4⟩:=hL b vs q;exact⟨h2,AO,h3,h4⟩
 |none=>
  rw[D3 q]at e;exact(I.hok b u e).stay (fun c v _ z=>k c v z) (fun c z=>same c _ z) fun c xs z=>same c _ z
def pi(p:Sq×Int):Dat:=.tup [sq p.1,.int p.2]
theorem VA(p q:Sq×Int):FlD 3 (pi p) (pi q):=by
 have F:=KZ p.1 q.1;have J:=Hj (c:=1) (by decide) [.int p.2] [.int q.2] (fun x hx y hy=>by rw[List.mem_singleton.mp hx,List.mem_singleton.mp hy];exact R4 _ _) (fun x hx=>by rw[List.mem_singleton.mp hx];rfl) fun x hx=>by rw[List.mem_singleton.mp hx];rfl
 obtain⟨i1,i2⟩:=J;have key:Bl true [sq p.1,.int p.2] [sq q.1,.int q.2]=lx (A2 [sq p.1,.int p.2]) (A2 [sq q.1,.int q.2])/\eqL [sq p.1,.int p.2] [sq q.1,.int q.2]=decide (A2 [sq p.1,.int p.2]=A2 [sq q.1,.int q.2]):=by
  rw[show A2 [sq p.1,.int p.2]=flat (sq p.1)++A2 [.int p.2]from rfl,show A2 [sq q.1,.int q.2]=flat (sq q.1)++A2 [.int q.2]from rfl,Bl,eqL,F.eq,F.lt,i1,i2];by_cases e:flat (sq p.1)=flat (sq q.1)
  ·rw[decide_eq_true e,if_pos rfl,e];refine⟨(XB _ _ _).symm,?_⟩;rw[Bool.true_and];simp
  ·rw[decide_eq_false e,if_neg (by decide)];refine⟨(Rh _ _ (by rw[F.lx,F.ly]) e).symm,?_⟩;rw[Bool.false_and];exact(decide_eq_false fun z=>e (List.append_inj z (by rw[F.lx,F.ly])).1).symm
 exact⟨rfl,rfl,by unfold pi;rw[eqD,flat,flat];exact key.2,by unfold pi;rw[CK,flat,flat];exact key.1⟩
theorem Pq{p q:Sq×Int}(h:flat (pi p)=flat (pi q)):p=q:=by obtain⟨⟨a,b⟩,c⟩:=p;obtain⟨⟨a',b'⟩,c'⟩:=q;simp[pi,sq,flat,A2]at h;obtain⟨rfl,rfl,rfl⟩:=h;rfl
theorem OP(p:Sq×Int):AH 8 (pi p)=true:=by simp only[pi,AH,List.all_cons,List.all_nil,Bool.and_true,Bool.and_eq_true];exact⟨Am _ 6,rfl⟩
def TPi:TyD (Sq×Int):=⟨pi,Pq,fun x y=>(VA x y).lt,fun x y=>(VA x y).eq,OP,fun _ _=>rfl⟩
section
variable {prog:Program}{w:World}{A:Around}{E:Value->Shared->Prop}{s:Shared}
theorem Ob{d:Addr}{od:Obj}{Q:Value->Shared->Prop}(hd:s.heap.get? d=some od)(hex:od.ExactDict)(hS:(d==sysModules)=false)(hQ:Q (.ref s.heap.objs.size) { s with heap:=s.heap.push { cls:=.type "dict_items",data:=.fields #[.ref d] } }) :
  wpAny (model prog w) A (call (.builtin "dict.items") [.ref d]) Q E s:=by
 have ty:s.TypeIs (.ref d) "dict":=⟨od,hd,hex.1⟩;refine wpAny_call_entry F.slot_dict_items ty F.entry_dict_items ?_ (F.args_dict_items_1 _);unfold Builtin.«dict.items»;refine wpAny_bind ?_;unfold Builtin.Dict.noArgs;refine wpAny_bind (wpAny_notOrdered_dict ty ?_);show wpAny _ _ (pure d) _ _ s;refine wpAny_pure ?_;show wpAny _ _ (Builtin.Dict.showsAll d >>= _) _ _ s;unfold Builtin.Dict.showsAll;rw[if_neg (by rw[hS];exact nofun)];exact wpAny_bind (wpAny_pure (wpAny_bind (wpAny_newObj_type (wpAny_pure ⟨_,rfl,hQ⟩))))
end
theorem Pg{β:Type}:∀{as:List Addr}{vs:List β},as.Pairwise (·<·)->∀(j:Nat) a v,as[j]?=some a->vs[j]?=some v->(as.zip vs).lookup a=some v
 |[],_,_,j,a,v,h,_=>by simp at h
 |_::_,[],_,j,a,v,_,h=>by simp at h
 |b::as,w::vs,nd,j,a,v,h1,h2=>by
  rw[List.zip_cons_cons,List.lookup_cons];cases j with
  |zero=>
   cases h1;cases h2;rw[beq_self_eq_true]
  |succ j=>
   have P9:as[j]?=some a:=h1;have Bq:a≠b:=Nat.ne_of_gt ((List.pairwise_cons.mp nd).1 a (List.mem_of_getElem? P9));rw[show(a==b)=false from beq_eq_false_iff_ne.mpr Bq];exact Pg (List.pairwise_cons.mp nd).2 j a v P9 h2
theorem R5{β:Type}:∀{as:List Addr}{vs:List β}{a:Addr}{v:β},(as.zip vs).lookup a=some v->∃j:Nat,as[j]?=some a/\vs[j]?=some v
 |[],_,a,v,h=>by simp at h
 |_::_,[],a,v,h=>by simp at h
 |b::as,w::vs,a,v,h=>by
  rw[List.zip_cons_cons,List.lookup_cons]at h;cases e:a==b with
  |true=>
   rw[e]at h;cases h;exact⟨0,by rw[eq_of_beq e];rfl,rfl⟩
  |false=>
   rw[e]at h;obtain⟨j,h1,h2⟩:=R5 h;exact⟨j+1,h1,h2⟩
theorem DRep.nth{K:PySem.W.Frag}{H:Hp}:∀{Ad:List (Dat×Dat)}{xs:List (Dat×Addr×Value)},DRep K H Ad xs->∀(j:Nat) k d,Ad[j]?=some (k,d)->∃a u,xs[j]?=some (k,a,u)/\Rep K H k (.ref a)/\∃v,RelV v u/\Rep K H d v
 |[],_,h,j,k,d,e=>by simp at e
 |(k',d')::r,_,h,j,k,d,e=>by
  rw[DRep]at h;obtain⟨a,u,Lb,rfl,_,h3,h4,h6⟩:=h;cases j with
  |zero=>cases e;exact⟨a,u,rfl,h3,h4⟩
  |succ j=>exact DRep.nth h6 j k d e
theorem SN{K:PySem.W.Frag}{H:Hp}:∀{ds:List Dat}{vs:List V}{us:List Value},vs.length=ds.length->us.length=ds.length->(∀(j:Nat) d v u,ds[j]?=some d->vs[j]?=some v->us[j]?=some u->Rep K H d v/\RelV v u)->Tri K H ds vs us
 |[],[],[],_,_,_=>.nil
 |[],_::_,_,h,_,_=>by simp at h
 |[],[],_::_,_,h,_=>by simp at h
 |_::_,[],_,h,_,_=>by simp at h
 |_::_,_::_,[],_,h,_=>by simp at h
 |d::ds,v::vs,u::us,h1,h2,h=>by
  obtain⟨r1,r2⟩:=h 0 d v u rfl rfl rfl;exact .cons r1 r2 (SN (by simpa using h1) (by simpa using h2) fun j d' v' u' a b c=>h (j+1) d' v' u' a b c)
theorem Ot{H:Hp}{G:Gs}{N:Addr->Option (List V)}(hN:∀b u,H b=some u->N b=none):Ext H G (K4 H N) G:=⟨fun b o h _=>by rw[D3 (hN b o h)];exact h,fun b h=>.inl h⟩
theorem Vh{K:PySem.W.Frag}{H:Hp}{G:Gs}{N:Addr->Option (List V)}(hN:∀b u,H b=some u->N b=none)(o:GOk K H G):GOk K (K4 H N) G:=fun a od e=>by
 have E:=Ot (G:=G) hN;cases od with
 |lst l=>
  obtain⟨vs,h1,h2⟩:=o a _ e;exact⟨vs,by rw[D3 (hN _ _ h1)];exact h1,h2.same E.hid⟩
 |dct Ad=>
  obtain⟨xs,h1,h2⟩:=o a _ e;exact⟨xs,by rw[D3 (hN _ _ h1)];exact h1,h2.same E.hid⟩
section
variable {X:Cx}{ρ:Rho}{G:Gs}{a:Expr}{pos p3 Au apos:Pos}{p:Addr}{L:List (Sq×Int)}
theorem K1(jk:X.mg "sorted"=none)(hu:X.A.units+20<cLine)(BI:X.calm=true)(ha:PX X ρ G a (.fn p))(hG:G p=some (.dct (L.map fun q=>(sq q.1,.int q.2))))(kD:Gl X "sorted":=by rfl)(Fi:attributeBase a "items" X.env (eval a X.env)=eval a X.env:=by rfl)(Bo:(apos.endLine==Au.line)=true:=by rfl)(he2:starEach [.Call (.Attribute a "items" apos) [] [] Au] X.env=(false,eval (.Call (.Attribute a "items" apos) [] [] Au) X.env)::starEach [] X.env:=by rfl) :
  PX X ρ G (.Call (.Name "sorted" p3) [.Call (.Attribute a "items" apos) [] [] Au] [] pos) (.lst ((TPi.sort L).map pi)):=by
 intro AD s σ H I S;refine wpAny_Call_Name_kw (Cv I kD jk (by decide +kernel:bootBuiltins "sorted"=some (.builtin "sorted")) ?_ (by decide) (by decide));refine PyProof.Rows.callWith_builtin1 (PyProof.Rows.spliced_more ?_ he2) he2 rfl;refine wpAny_Call_method0_late Fi Bo (thn (ha AD s σ H I S) fun u s1 ⟨x,H1,I1,rx,_,G1,e1,o1,r1,q1,BZ⟩=>?_);subst q1;subst BZ;cases (show x=V.ref p from r1);cases rx;obtain⟨xs,h3,r3⟩:=o1 p _ hG;obtain⟨y1,y2,dd⟩:=HV I1 h3 (r3.same AJ);obtain⟨od,es,ep,Np,hex,D1,ck,dH,ri⟩:=id dd;refine⟨"dict","dict.items",PySem.F.plainAttrs_dict,PySem.F.slot_dict_items,PySem.F.type_dict_items,dd.typeIs,?_,?_⟩
 ·intro b hb;cases hb;exact⟨od,Np,hex.2.1⟩
 refine Calls.callWith_builtin rfl (PySem.evalArgs_none (Ob Np hex y1 (PyProof.Rows.spliced_none ?_)));refine Calls.call_function_entry kind_sorted plain_sorted entry_sorted (args_sorted1 _) ?_;unfold Builtin.«sorted»;refine wpAny_bind (m:=checkCount "sorted" 1 1 _) (wpAny_pure ?_);have hsz:es.size=xs.length:=by rw[<-Array.length_toList,ck,List.length_map]
 refine wpAny_bind (LK (s:={ s1 with heap:=s1.heap.push { cls:=.type "dict_items",data:=.fields #[.ref p] } }) (by simpa using I1.ok.hd BI) ⟨_,Heap.get?_push_size _ rfl,rfl,rfl⟩ (Heap.get?_push_of_some _ Np) hex D1 (by rw[hsz];exact y2) fun h1 as kp hl tu=>?_);have AY:xs.length=L.length:=by rw[r3.length,List.length_map]
 have Bo:∀n,n<=xs.length->n<=sizeLine:=fun n hn=>Nat.le_trans hn y2;obtain⟨YQ,jG⟩:∃YQ:List (List V),YQ=(xs.zip L).map fun q=>[V.ref q.1.2.1,V.int q.2.2]:=⟨_,rfl⟩;have mH:∀(j:Nat) q,L[j]?=some q->∃ak u t b,xs[j]?=some (sq q.1,ak,u)/\u=Value.int q.2 t/\Rep X.K (hid H1 G1) (sq q.1) (.ref ak)/\as[j]?=some b/\YQ[j]?=some [V.ref ak,V.int q.2]/\s1.heap.objs.size<b/\h1.get? b=some { cls:=.type "tuple",data:=.seq #[Value.ref ak,u] }:=by
  intro j q hj;obtain⟨ak,u,hx,rk,v,rv,rd⟩:=r3.nth j (sq q.1) (.int q.2) (by rw[List.getElem?_map,hj];rfl);rw[Rep]at rd;subst rd;obtain⟨t,rfl⟩:=rv;have gr:j<as.length:=by
   have:=(List.getElem?_eq_some_iff.mp hx).1
   lia
  obtain⟨b,hb⟩:∃b,as[j]?=some b:=⟨as[j],List.getElem?_eq_getElem gr⟩;obtain⟨p1,e,p2,p3⟩:=tu.2 j b hb;have he:e=gU (sq q.1,ak,Value.int q.2 t):=by
   have:es.toList[j]?=some e:=by rw[Array.getElem?_toList];exact p2
   rw[ck,List.getElem?_map,hx]at this;cases this;rfl
  subst he;refine⟨ak,_,t,b,hx,rfl,rk,hb,?_,Nat.lt_trans (Nat.lt_succ_self _) (by have:=p1;simp only[Heap.size_push]at this;exact this),p3⟩;rw[jG,List.getElem?_map,(List.getElem?_zip_eq_some (z:=((sq q.1,ak,Value.int q.2 t),q))).mpr ⟨hx,hj⟩];rfl
 have gk:∀b o,s1.heap.get? b=some o->h1.get? b=some o:=fun b o e=>kp b o (Heap.get?_push_of_some _ e);have mZ:∀b vs,(as.zip YQ).lookup b=some vs->∃(j:Nat)(q:Sq×Int)(ak:Addr)(u:Value)(t:Tok),L[j]?=some q/\vs=[V.ref ak,V.int q.2]/\u=Value.int q.2 t/\s1.heap.objs.size<b/\h1.get? b=some { cls:=.type "tuple",data:=.seq #[Value.ref ak,u] }:=by
  intro b vs e;obtain⟨j,di,iF⟩:=R5 e;have nT:j<L.length:=by have:=(List.getElem?_eq_some_iff.mp di).1;lia
  obtain⟨ak,u,t,b',_,FI,_,hb,hv,Ar,hg⟩:=mH j L[j] (List.getElem?_eq_getElem nT);rw[di]at hb;cases hb;rw[iF]at hv;cases hv;exact⟨j,L[j],ak,u,t,List.getElem?_eq_getElem nT,rfl,FI,Ar,hg⟩
 have nr:∀b u,H1 b=some u->(as.zip YQ).lookup b=none:=fun b u e=>by
  cases q:(as.zip YQ).lookup b with
  |none=>rfl
  |some vs=>
   obtain⟨_,_,_,_,_,_,_,_,Ar,_⟩:=mZ b vs q;exact absurd (I1.hok b u e).lt (Nat.not_lt.mpr (Nat.le_of_lt Ar))
 have I2:Inv X AD σ (K4 H1 fun b=>(as.zip YQ).lookup b) { s1 with heap:=h1 }:=TF.Inv.laidN (t':=s1.toks) I1 gk fun b vs e=>by
  obtain⟨j,q,ak,u,t,_,rfl,rfl,Ar,hg⟩:=mZ b vs e;exact⟨Nat.le_of_lt Ar,by show 2<=sizeLine;decide,[Value.ref ak,Value.int q.2 t],.cons rfl (.cons ⟨t,rfl⟩ .nil),⟨_,hg,rfl,0,rfl⟩⟩
 have E2:=Ot (G:=G1) nr;have O2:=Vh nr o1;have T:Tri X.K (hid (K4 H1 fun b=>(as.zip YQ).lookup b) G1) (L.map pi) (as.map V.ref) (as.map Value.ref):=by
  refine SN (by rw[List.length_map,List.length_map];lia) (by rw[List.length_map,List.length_map];lia) fun j d v u h1 h2 h3=>?_;rw[List.getElem?_map]at h1 h2 h3;obtain⟨q,hq,rfl⟩:=Option.map_eq_some_iff.mp h1;obtain⟨b,hb,rfl⟩:=Option.map_eq_some_iff.mp h2;rw[hb]at h3;cases h3;refine⟨?_,rfl⟩;obtain⟨ak,u,t,b',_,_,rk,Ja,hv,Ar,hg⟩:=mH j q hq;rw[hb]at Ja;cases Ja;have qT:H1 b=none:=I1.hok.fresh (Nat.le_of_lt Ar);unfold pi;rw[Rep];refine⟨b,[V.ref ak,V.int q.2],rfl,SqT.of (EY (o1.free qT) (Of (Pg tu.1 j b _ hb hv))),RepL.cons (rk.same E2.hid) (RepL.cons (by rw[Rep]) RepL.nil)⟩
 obtain⟨rd,r'⟩:=T.rep;obtain⟨us,g7⟩:∃us,us=as.map Value.ref:=⟨_,rfl⟩;rw[<-g7]at T r' ⊢;have pj:us.length=xs.length:=by rw[g7,List.length_map];lia
 have ra:AtL h1 (L.map pi) us:=(rd.same AJ).at I2 (by rw[List.all_map,List.all_eq_true];exact fun x _=>OP x) r';refine wpAny_bind (wpAny_newList ?_ (Bo _ (by lia)));have UX:(h1.push (seqObj "list" us.toArray 0)).get? h1.objs.size=some (seqObj "list" us.toArray 0):=Heap.get?_push_size _ rfl;have Fc:∀b o,h1.get? b=some o->(h1.push (seqObj "list" us.toArray 0)).get? b=some o:=fun b o e=>Heap.get?_push_of_some _ e;have O:=QO TPi L (.inr fun x _=>⟨_,_,rfl⟩);refine wpAny_bind (wpAny_holding (wpAny_call_entry slot_list_sort ⟨_,UX,rfl⟩ entry_list_sort (Gn (s:={ s1 with heap:=h1.push (seqObj "list" us.toArray 0) }) (g:=flat) (ds:=L.map pi) UX (ra.kept Fc) (fun _ _ _ _=>trivial) (fun h' k=>ra.kept fun b o e=>k b o (Nat.ne_of_lt (Heap.lt_size e)) (Fc b o e)) O (Bo _ (by lia)) (by show X.A.units+1+1+8<cLine;lia) fun out hp UY=>⟨_,rfl,?_⟩) (args_list_sort _)));refine wpAny_pure ⟨_,rfl,?_⟩;obtain⟨GS,Io,T',Uu⟩:=LF hp T;obtain⟨Yl,aX⟩:=T'.rep;have fE:Io.length<=sizeLine:=by
  have e1:=aX.length;have e2:=hp.length_eq;exact Bo _ (by lia)
 obtain⟨TR,dq⟩:=sortedHeap_at (out:=out) UX;have dt:∀u∈out.toList,BJ (h1.push (seqObj "list" us.toArray 0)) u=BJ h1 u:=fun u FI=>by
  obtain⟨d,hd,hr⟩:=ra.mem u (hp.mem_iff.mp FI);rw[BN (O.pl d hd) hr,BN (O.pl d hd) (hr.kept Fc)]
 have RF:(GS.map flat).Pairwise (fun x y=>HT.lexLt y x=false):=by
  rw[<-Mz I2 (T'.same AJ) (fun d hd=>O.pl d (Uu.mem_iff.mp hd))];have e:out.toList.map (fun u=>flat (BJ h1 u))=out.toList.map (fun u=>flat (BJ (h1.push (seqObj "list" us.toArray 0)) u)):=List.map_congr_left fun u FI=>by rw[dt u FI]
  show(out.toList.map fun u=>flat (BJ h1 u)).Pairwise _;rw[e];exact UY
 obtain⟨m,rfl,hm⟩:=Jt pi Uu;have em:m=TPi.sort L:=by
  refine TyD.uniq TPi (hm.trans (TPi.sort_perm _).symm) ?_ (TPi.sort_sorted _);rw[List.map_map,List.pairwise_map]at RF;refine RF.imp fun {x y} h=>?_;unfold TyD.le;have:lx (flat (TPi.f y)) (flat (TPi.f x))=false:=h;rw[this];rfl
 subst em;refine⟨.ref h1.objs.size,upd (K4 H1 fun b=>(as.zip YQ).lookup b) h1.objs.size (.lst Io),?_,rfl,?_⟩
 ·refine I2.laid (t':=s1.toks) (o:=.lst Io) (fun b o e=>?_) (Nat.le_refl _) ⟨fE,out.toList,TR,aX,by rw[Array.toArray_toList];exact dq⟩;rw[sortedHeap_old (Nat.ne_of_lt (Heap.lt_size e)) (by rw[size_push'];exact Nat.lt_succ_of_lt (Heap.lt_size e))];exact Fc b o e
 ·exact Po.trans (e1.trans E2) (ID O2 (I2.hok.fresh (Nat.le_refl _)) Yl)
end
section
variable {F:List Sq}{h:Lay->Sq->Int}{l m:Lay}
def Bd(x:Sq):List (Sq×Sq×Sq):=[((x.1,x.2),(x.1+1,x.2),(x.1,x.2-1)),((x.1+1,x.2),(x.1+1,x.2+1),(x.1+1,x.2)),((x.1+1,x.2+1),(x.1,x.2+1),(x.1,x.2+1)),((x.1,x.2+1),(x.1,x.2),(x.1-1,x.2))]
theorem L4{x:Sq}{t:Sq×Sq×Sq}(ht:t∈Bd x):t.1∈cor x/\t.2.1∈cor x:=by simp only[Bd,List.mem_cons,List.not_mem_nil,or_false]at ht;rcases ht with rfl|rfl|rfl|rfl<;>simp[AU]
theorem Pl.good(P:Pl F h)(I:IsLay F l){x:Sq}(hx:x∈F){t:Sq×Sq×Sq}(ht:t∈Bd x)(n1:(x,t.2.2)∉l)(n2:(t.2.2,x)∉l):h l t.2.1-h l t.1=sgn x:=by
 obtain⟨r,c⟩:=x;simp only[Bd,List.mem_cons,List.not_mem_nil,or_false]at ht;rcases ht with rfl|rfl|rfl|rfl
 ·have:=P.dn I (x:=(r,c)) (.inl hx)
  unfold V0 at this;rw[Fe n2]at this;simp only at this ⊢;lia
 ·have:=P.rt I (x:=(r+1,c)) (.inr (by simpa using hx))
  have e:=VT r c;unfold H0 at this;simp only[Int.add_sub_cancel]at this;rw[Fe n1]at this;simp only at this ⊢;lia
 ·have:=P.dn I (x:=(r,c+1)) (.inr (by simpa using hx))
  have e:=VQ r c;unfold V0 at this;simp only[Int.add_sub_cancel]at this;rw[Fe n1]at this;simp only at this ⊢;lia
 ·have:=P.rt I (x:=(r,c)) (.inl hx)
  unfold H0 at this;rw[Fe n2]at this;simp only at this ⊢;lia
theorem Yd(x:Sq):1-2*((x.1+x.2)%2)=sgn x:=by unfold sgn;split<;>lia
def B2(F:List Sq):List Sq:=F.flatMap fun x=>(Bd x).map (·.1)
theorem J2{y:Sq}:y∈B2 F↔∃x∈F,y∈cor x:=by
 unfold B2;simp only[List.mem_flatMap,Bd,List.map_cons,List.map_nil,List.mem_cons,List.not_mem_nil,or_false,AU];constructor
 ·rintro⟨x,hx,h⟩;refine⟨x,hx,?_⟩;rcases h with h|h|h|h
  ·exact .inl h
  ·exact .inr (.inr (.inl h))
  ·exact .inr (.inr (.inr h))
  ·exact .inr (.inl h)
 ·rintro⟨x,hx,h⟩;refine⟨x,hx,?_⟩;rcases h with h|h|h|h
  ·exact .inl h
  ·exact .inr (.inr (.inr h))
  ·exact .inr (.inl h)
  ·exact .inr (.inr (.inl h))
theorem Oh(gd:Good F):TSq.sort (Cu [] (B2 F))=Aq F:=by refine TSq.uniq ((TSq.sort_perm _).trans ?_) (TSq.sort_sorted _) (L7 (DT F));rw[List.perm_ext_iff_of_nodup (Jf _ [] List.nodup_nil) (CD (DT F))];intro x;rw[J9,Bu gd,J2];simp
theorem fW{x y:Sq}(a b:Int)(Ar:AZ x y):TPi.le (x,a) (y,b)=true:=by
 have e:=TyD.le_total TPi (x,a) (y,b);by_cases h:TPi.le (x,a) (y,b)=true
 ·exact h
 ·exfalso;have hs:TSq.le x y=true:=by
   have:=L7 (F:=[x,y]) (by simp[Ar])
   simpa using this
  unfold TyD.le at h hs;simp only[Bool.not_eq_true',Bool.not_eq_false]at h hs;have Bq:flat (sq y)≠flat (sq x):=fun z=>by
   have:=Fh z
   subst this;exact A4 _ Ar
  have F':=KZ y x;have:lx (flat (pi (y,b))) (flat (pi (x,a)))=lx (flat (sq y)) (flat (sq x)):=by
   unfold pi;rw[flat,flat];rw[show A2 [sq y,.int b]=flat (sq y)++A2 [.int b]from rfl,show A2 [sq x,.int a]=flat (sq x)++A2 [.int a]from rfl];exact Rh _ _ (by rw[F'.lx,F'.ly]) Bq
  have h2:lx (flat (pi (y,b))) (flat (pi (x,a)))=true:=h;rw[this]at h2;have h3:lx (flat (sq y)) (flat (sq x))=false:=hs;rw[h3]at h2;cases h2
theorem QS(gd:Good F)(v:Sq->Int){L:List (Sq×Int)}(nd:(L.map (·.1)).Nodup)(hv:∀p∈L,p.2=v p.1)(hm:∀y,y∈L.map (·.1)↔y∈Aq F):TPi.sort L=(Aq F).map fun y=>(y,v y):=by
 refine TPi.uniq ((TPi.sort_perm _).trans ?_) (TPi.sort_sorted _) ?_
 ·have e:L=(L.map (·.1)).map fun y=>(y,v y):=by
   rw[List.map_map]
   conv=>lhs;rw[<-List.map_id L]
   refine List.map_congr_left fun p hp=>?_;simp only[id,Function.comp];exact Prod.ext rfl (hv p hp)
  rw[e];exact((List.perm_ext_iff_of_nodup nd (CD (DT F))).mpr hm).map _
 ·rw[List.pairwise_map];exact(DT F).imp fun {a b} IG=>fW _ _ IG
end
end TF
namespace TF
section
variable {F:List Sq}
inductive Gr (F:List Sq) (s:Sq):List Sq->Prop
 |one:Gr F s [s]
 |add {L:List Sq} {x y:Sq}:Gr F s L->y∈F->y∉L->x∈L->y∈nbM x->Gr F s (y::L)
theorem Gr.ok{s:Sq}(hs:s∈F){L:List Sq}(g:Gr F s L):L.Nodup/\s∈L/\∀x∈L,x∈F:=by
 induction g with
 |one=>exact⟨by simp,by simp,fun x hx=>by rw[List.mem_singleton.mp hx];exact hs⟩
 |add g hy hn hx ha ih=>
  refine⟨List.nodup_cons.mpr ⟨hn,ih.1⟩,List.mem_cons_of_mem _ ih.2.1,fun z hz=>?_⟩;rcases List.mem_cons.mp hz with rfl|hz
  ·exact hy
  ·exact ih.2.2 z hz
theorem Gr.few{s:Sq}{L:List Sq}(g:Gr F s L):∃K:List Sq,K.length<=2*L.length+2/\∀x∈L,∀y∈cor x,y∈K:=by
 induction g with
 |one=>exact⟨cor s,by simp[cor],fun x hx y hy=>by rw[List.mem_singleton.mp hx]at hy;exact hy⟩
 |add g hy hn hx ha ih=>
  rename_i L x y;obtain⟨K,hk,hc⟩:=ih;have old:∀z∈cor x,z∈K:=hc x hx;have ad:∃a b:Sq,∀z∈cor y,z=a\/z=b\/z∈K:=by
   obtain⟨r,c⟩:=x;simp only[nbM,List.mem_cons,List.not_mem_nil,or_false]at ha;rcases ha with rfl|rfl|rfl|rfl
   ·refine⟨(r-1,c),(r-1,c+1),fun z hz=>?_⟩;rcases AU.mp hz with rfl|rfl|rfl|rfl
    ·exact .inl rfl
    ·exact .inr (.inl rfl)
    ·exact .inr (.inr (old _ (AU.mpr (by simp))))
    ·exact .inr (.inr (old _ (AU.mpr (by simp))))
   ·refine⟨(r,c-1),(r+1,c-1),fun z hz=>?_⟩;rcases AU.mp hz with rfl|rfl|rfl|rfl
    ·exact .inl rfl
    ·exact .inr (.inr (old _ (AU.mpr (by simp))))
    ·exact .inr (.inl rfl)
    ·exact .inr (.inr (old _ (AU.mpr (by simp))))
   ·refine⟨(r,c+1+1),(r+1,c+1+1),fun z hz=>?_⟩;rcases AU.mp hz with rfl|rfl|rfl|rfl
    ·exact .inr (.inr (old _ (AU.mpr (by simp))))
    ·exact .inl rfl
    ·exact .inr (.inr (old _ (AU.mpr (by simp))))
    ·exact .inr (.inl rfl)
   ·refine⟨(r+1+1,c),(r+1+1,c+1),fun z hz=>?_⟩;rcases AU.mp hz with rfl|rfl|rfl|rfl
    ·exact .inr (.inr (old _ (AU.mpr (by simp))))
    ·exact .inr (.inr (old _ (AU.mpr (by simp))))
    ·exact .inl rfl
    ·exact .inr (.inl rfl)
  obtain⟨a,b,IG⟩:=ad;refine⟨a::b::K,by simp only[List.length_cons];lia,fun z hz w hw=>?_⟩;rcases List.mem_cons.mp hz with rfl|hz
  ·rcases IG w hw with rfl|rfl|h
   ·simp
   ·simp
   ·simp[h]
  ·simp[hc z hz w hw]
theorem Wc{s x:Sq}{L:List Sq}(h:Con nbR (·∈F) s x)(hs:s∈L)(hx:x∉L):∃a b,a∈L/\b∈F/\b∉L/\b∈nbM a:=by
 induction h with
 |base=>exact absurd hs hx
 |step hc hr hg ih=>
  rename_i a b;by_cases ha:a∈L
  ·exact⟨a,b,ha,hg,hx,hr⟩
  ·exact ih ha
theorem bf(gd:Good F){s:Sq}(hs:s∈F)(hang:∀x∈F,Con nbR (·∈F) s x):∃L,Gr F s L/\∀x∈F,x∈L:=by
 have key:∀k:Nat,∃L,Gr F s L/\(k<=L.length\/∀x∈F,x∈L):=by
  intro k
  induction k with
  |zero=>exact⟨_,.one,.inl (Nat.zero_le _)⟩
  |succ k ih=>
   obtain⟨L,g,h⟩:=ih;by_cases Dj:∀x∈F,x∈L
   ·exact⟨L,g,.inr Dj⟩
   ·have hk:k<=L.length:=h.resolve_right Dj;have:∃x,x∈F/\x∉L:=by
     refine Classical.byContradiction fun hn=>Dj fun x hx=>Classical.byContradiction fun hm=>hn ⟨x,hx,hm⟩
    obtain⟨x,hx,hm⟩:=this;obtain⟨a,b,h1,h2,h3,h4⟩:=Wc (hang x hx) (g.ok hs).2.1 hm;exact⟨b::L,.add g h2 h3 h1 h4,.inl (by simp only[List.length_cons];lia)⟩
 obtain⟨L,g,h⟩:=key (F.length+1);refine⟨L,g,h.resolve_left fun hl=>?_⟩
 have:=BE (g.ok hs).1 (g.ok hs).2.2
 lia
theorem XW(gd:Good F)(hang:∀x∈F,Con nbR (·∈F) (F.headD (0,0)) x):(Aq F).length<=50:=by
 obtain⟨L,g,Dj⟩:=bf gd (CJ gd) hang;obtain⟨K,hk,hc⟩:=g.few;have h1:=BE (CD (DT F)) (m:=K) fun y hy=>by
  obtain⟨x,hx,jH⟩:=(Bu gd).mp hy;exact hc x (Dj x hx) y jH
 have h2:=BE (g.ok (CJ gd)).1 (g.ok (CJ gd)).2.2;have h3:=gd.len;lia
theorem UB:((DQ 0 0 9 9).map Rm).Nodup:=by decide +kernel
theorem Vv(gd:Good F)(hang:∀x∈F,Con nbR (·∈F) (F.headD (0,0)) x):UOk (Aq F):=cf (UB.sublist ((List.filter_sublist (l:=DQ 0 0 9 9)).map _)) (Nat.le_trans (XW gd hang) (by decide))
end
end TF
namespace TF
open PySem PySem.Spec L2
open PyProof.Rows hiding St RelV
def gN(K:PySem.W.Frag)(a b:Addr):It:=⟨fun i H=>∃xs ys x y,SqL K H a xs/\SqL K H b ys/\xs[i]?=some x/\ys[i]?=some y,fun i H v H'=>∃x y T,H T=none/\v=.ref T/\H'=upd H T (.tup [x,y])/\(∀xs,SqL K H a xs->xs[i]?=some x)/\∀ys,SqL K H b ys->ys[i]?=some y,
  fun i H=>∃xs ys,SqL K H a xs/\SqL K H b ys/\(xs.length<=i\/ys.length<=i)⟩
def ZsL(z TI TO i1 i2 l1 l2:Addr)(i:Nat)(h:Heap):Prop:=IsZip h z TI TO .none/\IsPair h TI (.ref i1) (.ref i2)/\(∃a b,IsPair h TO a b)/\h.IsListIter i1 l1 i/\h.IsListIter i2 l2 i
theorem UU{P:Program}{w:World}{K:PySem.W.Frag}{elts:List Expr}{x1:Nat}{pos:Pos}{z TI TO i1 i2 a b:Addr}(D:ZipApart z TI TO i1 i2 a b):Turn P w K (.Tuple elts x1 pos) (gN K a b) [z,TI,TO,i1,i2] z (ZsL z TI TO i1 i2 a b) where
 mem:=by simp
 obj:=fun i h st c hc=>by
  obtain⟨s1,s2,⟨x,y,s3⟩,⟨o4,s4,c4,d4⟩,⟨o5,s5,c5,d5⟩⟩:=st;simp only[List.mem_cons,List.not_mem_nil,or_false]at hc;rcases hc with rfl|rfl|rfl|rfl|rfl
  ·exact⟨_,s1,fun v z=>by cases z⟩
  ·exact⟨_,s2,fun v z=>by cases z⟩
  ·exact⟨_,s3,fun v z=>by cases z⟩
  ·exact⟨o4,s4,fun v z=>by rw[d4]at z;cases z⟩
  ·exact⟨o5,s5,fun v z=>by rw[d5]at z;cases z⟩
 keep:=fun i h h' st k=>by
  obtain⟨s1,s2,⟨x,y,s3⟩,s4,s5⟩:=st;exact⟨k z (by simp) _ s1,k TI (by simp) _ s2,⟨x,y,k TO (by simp) _ s3⟩,s4.at fun o e=>k i1 (by simp) o e,s5.at fun o e=>k i2 (by simp) o e⟩
 item:=by
  intro X hP hw hK hc i AD s σ H E I hf st hg;subst hP hw hK;obtain⟨xs,ys,x,y,YW,Ts,hx,hy⟩:=hg;obtain⟨TJ,YU,p1,R6⟩:=I.list YW;obtain⟨Mt,Za,p2,aS⟩:=I.list Ts;obtain⟨u1,ZZ,iz⟩:=YU.get hx;obtain⟨u2,Lj,kf⟩:=Za.get hy;obtain⟨s1,s2,s3,s4,s5⟩:=st;obtain⟨ta,tb,jR⟩:=id s3;refine wpAny_pyNext_zip_item D s1 s2 jR s4 s5 p1.isList p2.isList (by simpa using ZZ) (by simpa using Lj) fun h1 y1 y2 y3 y4 hT _ hk=>?_;refine⟨_,rfl,wpAny_letOwnedTupleGo_zip (s:={ s with heap:=h1 }) y1 fun h2 bJ sb=>?_⟩;have JM:∀c o,c≠z->h1.get? c=some o->h2.get? c=some o:=fun c o hb q=>sb.extBut c o hb q;have TM:H s.heap.objs.size=none:=I.hok.fresh (Nat.le_refl _);have dS:z<s.heap.objs.size:=Heap.lt_size s1;have Dr:∀c o,c∉[z,TI,TO,i1,i2]->s.heap.get? c=some o->h2.get? c=some o:=fun c o hm q=>by
   simp only[List.mem_cons,List.not_mem_nil,or_false,not_or]at hm;exact JM c o hm.1 (hk c o hm.1 hm.2.2.1 hm.2.2.2.1 hm.2.2.2.2 q)
  have PB:∀c o,H c=some o->c∉[z,TI,TO,i1,i2]:=fun c o q hm=>by
   have:=(hf c hm).1
   rw[q]at this;cases this
  have un:Un (frs X.stack) [z,TI,TO,i1,i2] H (upd H s.heap.objs.size (.tup [x,y])) s.heap h2:=by
   refine⟨fun c o q n hb hc=>Dr c o hc q,fun c o q n hb hc=>⟨o.slots,Dr c o hc q⟩,fun c o q n hc=>?_,fun c o q hc=>⟨o,Dr c o hc q⟩,fun c ys q=>?_,fun c o v q=>?_,fun c ps q=>⟨#[],?_⟩⟩
   ·rw[AR (Nat.ne_of_lt (Heap.lt_size q))];exact n
   ·rw[AR (Ab q TM)];exact q
   ·rw[AR (Ab q TM)];exact q
   ·rw[AR (Ab q TM),q];simp
  have hok:HOk X.prog X.w (upd H s.heap.objs.size (.tup [x,y])) h2:=fun c v q=>by
   by_cases hb:c=s.heap.objs.size
   ·subst hb;rw[Ax]at q;cases q;exact⟨by show 2<=sizeLine;rw[sizeLine_eq];decide,[u1,u2],.cons iz (.cons kf .nil),_,JM _ _ (Nat.ne_of_gt dS) hT,rfl,_,rfl⟩
   ·rw[AR hb]at q;refine(I.hok c v q).stay (fun e o hc r=>?_) (fun e r=>by rw[AR (Ab r TM)];exact r) fun e ys r=>by rw[AR (Ab r TM)];exact r
    rcases hc with rfl|hc
    ·exact Dr _ o (PB _ _ q) r
    ·exact Dr e o (PB _ _ hc) r
  have I1:Inv X AD σ (upd H s.heap.objs.size (.tup [x,y])) { s with heap:=h2 }:=I.call' (s':={ s with heap:=h2 }) rfl un hok I.bare fun c hb=>by
   have:=hf c hb
   exact⟨this.2.2.2.1,this.2.1,this.2.2.2.2.1,this.2.2.2.2.2⟩
  refine⟨.ref s.heap.objs.size,_,I1,rfl,⟨x,y,_,TM,rfl,rfl,fun zs WR=>by rw[I.list_inj WR YW];exact hx,fun zs WR=>by rw[I.list_inj WR Ts];exact hy⟩,⟨bJ,JM _ _ D.TIz (hk _ _ D.TIz D.TITO D.TIi1 D.TIi2 s2),?_,y3.at fun o e=>JM _ o D.i1z e,y4.at fun o e=>JM _ o D.i2z e⟩,fun c hb=>?_⟩
  ·exact⟨_,_,JM _ _ D.TOz y2⟩
  ·have Ar:c<s.heap.objs.size:=by
    simp only[List.mem_cons,List.not_mem_nil,or_false]at hb;obtain⟨a',b',s3⟩:=s3;obtain⟨o4,s4,_⟩:=s4;obtain⟨o5,s5,_⟩:=s5;rcases hb with rfl|rfl|rfl|rfl|rfl
    ·exact Heap.lt_size s1
    ·exact Heap.lt_size s2
    ·exact Heap.lt_size s3
    ·exact Heap.lt_size s4
    ·exact Heap.lt_size s5
   rw[AR (Nat.ne_of_lt Ar)];exact(hf c hb).1
 done:=by
  intro X hP hw hK hc i AD s σ H E I hf st hg;subst hP hw hK;obtain⟨xs,ys,YW,Ts,ee⟩:=hg;obtain⟨TJ,YU,p1,R6⟩:=I.list YW;obtain⟨Mt,Za,p2,aS⟩:=I.list Ts;obtain⟨s1,s2,s3,s4,s5⟩:=st;have l1:=YU.length;have l2:=Za.length;obtain⟨ta,tb,jR⟩:=id s3;refine wpAny_pyNext_zip_end (by simpa using I.ok.hd hc) D s1 s2 jR s4 s5 p1.isList p2.isList (ee.imp (fun h=>by simp;lia) fun h=>by simp;lia) fun h' hk=>⟨rfl,?_⟩;have Dr:∀c o,c∉[z,TI,TO,i1,i2]->s.heap.get? c=some o->h'.get? c=some o:=fun c o hm q=>by
   simp only[List.mem_cons,List.not_mem_nil,or_false,not_or]at hm;exact hk c o hm.1 hm.2.2.1 hm.2.2.2.1 hm.2.2.2.2 q
  have PB:∀c o,H c=some o->c∉[z,TI,TO,i1,i2]:=fun c o q hm=>by
   have:=(hf c hm).1
   rw[q]at this;cases this
  refine I.call' (s':={ s with heap:=h' }) rfl ⟨fun c o q n hb hc=>Dr c o hc q,fun c o q n hb hc=>⟨o.slots,Dr c o hc q⟩,fun c o q n hc=>n,fun c o q hc=>⟨o,Dr c o hc q⟩,fun c ys q=>q,fun c o v q=>q,fun c ps q=>⟨#[],by rw[q];simp⟩⟩ (fun c v q=>?_) I.bare fun c hb=>?_
  ·refine(I.hok c v q).stay (fun e o hc r=>?_) (fun e r=>r) fun e ys r=>r;rcases hc with rfl|hc
   ·exact Dr _ o (PB _ _ q) r
   ·exact Dr e o (PB _ _ hc) r
  ·have:=hf c hb
   exact⟨this.2.2.2.1,this.2.1,this.2.2.2.2.1,this.2.2.2.2.2⟩
 self:=fun A i s Q E st h=>wpAny_pyIter_zip st.1 h
theorem YI{K:PySem.W.Frag}{G:Gs}{l m:List Dat}{H:Hp}{a b:Addr}{vs ws:List V}(h1:hid H G a=some (.lst vs))(r1:RepL K (hid H G) l vs)(h2:hid H G b=some (.lst ws))(r2:RepL K (hid H G) m ws):Wk K (gN K a b) H G (Ec l m):=by
 intro H' G' e;have P9:SqL K H' a vs:=SqL.of (AJ _ _ (e.hid _ _ h1));have Tg:SqL K H' b ws:=SqL.of (AJ _ _ (e.hid _ _ h2));refine⟨fun i d hd=>?_,vs,ws,P9,Tg,?_⟩
 ·obtain⟨x,y,hx,hy,rfl⟩:=Pe hd;obtain⟨v,hv,rv⟩:=r1.get hx;obtain⟨u,hu,ru⟩:=r2.get hy;refine⟨⟨vs,ws,v,u,P9,Tg,hv,hu⟩,fun xx Xh hh=>?_⟩;obtain⟨x',y',T,hT,rfl,rfl,g1,g2⟩:=hh;have e1:=g1 vs P9;have e2:=g2 ws Tg;rw[hv]at e1;rw[hu]at e2;cases e1;cases e2;refine⟨Ext.alloc hT,fun o=>o.alloc hT,fun o=>?_⟩;rw[Rep];exact⟨T,[v,u],rfl,SqT.of (EY (o.free hT) Ax),RepL.cons ((rv.same e.hid).same (Ext.alloc hT).hid) (RepL.cons ((ru.same e.hid).same (Ext.alloc hT).hid) RepL.nil)⟩
 ·have l1:=r1.length;have l2:=r2.length;unfold Ec;rw[List.length_map,List.length_zip,l1,l2];lia
section
variable {X:Cx}{ρ:Rho}{G:Gs}{a b:Expr}{l m:List Dat}{pos p1:Pos}{elts:List Expr}{x1:Nat}{cE:Pos}
theorem RO{Q:List Dat->Gs->Prop}(hm:X.mg "zip"=none)(ha:PX X ρ G a (.lst l))(hb:PX X ρ G b (.lst m))(q:Q (Ec l m) G)(hg:Gl X "zip":=by rfl)(he:starEach [a,b] X.env=(false,eval a X.env)::starEach [b] X.env:=by rfl)(he2:starEach [b] X.env=(false,eval b X.env)::starEach [] X.env:=by rfl)(hpl:(backTo pos (starEach [b] X.env)).any (·.1)=false:=by rfl):WI X ρ G (.Tuple elts x1 cE) (.Call (.Name "zip" p1) [a,b] [] pos) Q:=by
 intro AD s σ H I S;refine wpAny_Call_Name_kw (Cv I hg hm (by decide +kernel:bootBuiltins "zip"=some (.type "zip")) ?_ (by decide) (by decide));have IG:PXs X ρ G [a,b] [.lst l,.lst m]:=AB ha (AB hb AE he2) he;refine PyProof.Rows.callWith_type1 (thn (IG pos AD s σ H I S) fun us s1 ⟨vs,H1,I1,rv,d',G1,e1,o1,rep,q1,q2⟩=>?_) he hpl;subst q1;subst q2;rw[RepL]at rep;obtain⟨v1,r1,rfl,ra,rep⟩:=rep;rw[RepL]at rep;obtain⟨v2,r2,rfl,rb,rep⟩:=rep;rw[RepL]at rep;subst rep;rw[Rep]at ra rb;obtain⟨pa,as,rfl,h1,g1⟩:=ra;obtain⟨pb,bs,rfl,h2,g2⟩:=rb;obtain⟨u1,u2,rfl,ir,jF⟩:=HL rv;cases ir;cases jF;obtain⟨TJ,YU,gA,R6⟩:=I1.list (SqL.of (AJ _ _ h1));obtain⟨Mt,Za,gh,aS⟩:=I1.list (SqL.of (AJ _ _ h2));have la:pa<s1.heap.objs.size:=by obtain⟨o,ho,_⟩:=gA.isList;exact Heap.lt_size ho
 have lb:pb<s1.heap.objs.size:=by obtain⟨o,ho,_⟩:=gh.isList;exact Heap.lt_size ho
 refine call_zip_2 gA.isList gh.isList fun h' y1 y2 y3 y4 y5 _ hk=>?_;refine wpAny_pyIter_zip (s:={ s1 with heap:=h' }) y1 ?_;have D:=zipApart_new la lb;refine⟨s1.heap.objs.size+4,[s1.heap.objs.size+4,s1.heap.objs.size+2,s1.heap.objs.size+3,s1.heap.objs.size,s1.heap.objs.size+1],_,_,H1,rfl,I1.kept (t':=s1.toks) hk,UU D,⟨y1,y2,⟨_,_,y3⟩,y4,y5⟩,fun c hc=>?_,Ec l m,G1,e1,o1,YI h1 g1 h2 g2,q⟩;have hle:s1.heap.objs.size<=c:=by
  simp only[List.mem_cons,List.not_mem_nil,or_false]at hc;rcases hc with rfl|rfl|rfl|rfl|rfl
  ·exact Nat.le_add_right _ 4
  ·exact Nat.le_add_right _ 2
  ·exact Nat.le_add_right _ 3
  ·exact Nat.le_refl _
  ·exact Nat.le_add_right _ 1
 exact I1.fpOk hle (I1.hok.fresh hle)
end
theorem M8:typeLookup (.type "list") "keys"=pure none:=by rw[typeLookup_type,builtinLookup_eq_fast];kernel_rfl
section
variable {prog:Program}{w:World}{A:Around}{E:Value->Shared->Prop}{h:Heap}{g:Array GenState}{d:Drawn}{t:Nat}{os:OsState}{a:Addr}{o:Obj}
theorem Qz{tk:Tok}{Q:Fin->Shared->Prop}(hh:A.handled=none){items:Array Value}{n:Nat}{sl:Array (Option Value)}(hx:h.get? a=some { cls:=.type "list",dict:=none,data:=.seq items n,slots:=sl })(hq:∀h' t' e,Heap.NewAttrErr h h' e (.ref a) "keys"->E (.ref e) ⟨h',g,d,t',os⟩) :
  wpAny (model prog w) A (Builtin.«object.__getattribute__» ⟨[.ref a,.str "keys" tk],[]⟩) Q E ⟨h,g,d,t,os⟩:=by
 have hT:(⟨h,g,d,t,os⟩:Shared).TypeIs (.ref a) "list":=⟨_,hx,rfl⟩;have f4:=M8;repeat (any_goals (first|assumption|wp_step))
 exact wpAny_raiseAttrError hh (fun h' pZ e jM=>hq h' pZ e jM) (attrMsg_fits (by decide +kernel) (by size_fits))
theorem OJ:typeLookup (.type "list") "__getattr__"=pure none:=by rw[typeLookup_type,builtinLookup_eq_fast];kernel_rfl
theorem Tf{Q:Option Value->Shared->Prop}{items:Array Value}{n:Nat}{sl:Array (Option Value)}(hh:A.handled=none)(hx:h.get? a=some { cls:=.type "list",dict:=none,data:=.seq items n,slots:=sl })(hq:∀h' t',(∀b u,h.get? b=some u->h'.get? b=some u)->Q none ⟨h',g,d,t',os⟩):wpAny (model prog w) A (getAttr? (.ref a) "keys") Q E ⟨h,g,d,t,os⟩:=by
 have hT:(⟨h,g,d,t,os⟩:Shared).TypeIs (.ref a) "list":=⟨_,hx,rfl⟩;have f1:=sub_AttributeError;have f2:=F.slot_list_getattribute.lookup;have f3:=F.slot_list_getattribute.bind (.ref a);have f5:=OJ;unfold getAttr? getAttrBy?;repeat (any_goals (first|assumption|wp_step))
 refine codeAny_call_builtin F.slot_list_getattribute.plain F.entry_list_ga (F.slot_list_getattribute.check _ _ _ _ _ _ _ _ (show(⟨h,g,d,t+1,os⟩:Shared).TypeIs (.ref a) "list" from⟨_,hx,rfl⟩) (F.args_list_getattribute_2 _ _) ?_);refine Qz (by simpa using hh) hx fun h' t' e ne=>?_;obtain⟨t2,u2,he⟩:=ne.there;show wpAny _ _ (getattributeRaised _ _ _ _ _ _ _) _ _ _;unfold getattributeRaised;repeat (any_goals (first|assumption|wp_step))
 exact hq h' t' ne.keeps
end
theorem NC:plainId "dict.update.loop"=true:=by decide +kernel
theorem Um:entryFor table "dict.update.loop"=some Builtin.«dict.update.loop»:=entryFor_of_tree (by kernel_rfl)
section
variable {prog:Program}{w:World}{A:Around}{E:Value->Shared->Prop}{s:Shared}
theorem VX{d it l:Addr}{items:Array Value}{h0:Heap}{R:Result->Shared->Prop}(hh:A.handled=none)(OQ:(A8 prog w).room A.in1)(Ry:d≠it)(jV:h0.get? d=none)(oH:h0.get? it=none)(hl:h0.IsList l items)(ps:List (Dat×Addr×Value))(nd:(ps.map (·.1)).Nodup)(hit:∀(j:Nat) q,ps[j]?=some q->∃(t:Addr)(n:Nat)(dd:Option Addr)(sl:Array (Option Value)),items[j]?=some (.ref t)/\h0.get? t=some { cls:=.type "tuple",dict:=dd,data:=.seq #[.ref q.2.1,q.2.2] n,slots:=sl })(AY:items.size=ps.length)(hz:ps.length<=sizeLine)(Qe:∀h',(∀b o,h0.get? b=some o->h'.get? b=some o)->∀q∈ps,(A8 prog w).is h' q.1 q.2.1)(hR:∀h' tk,(∀b o,h0.get? b=some o->h'.get? b=some o)->h'.DictOfH (A8 prog w) d ps->R (.ok (.ret .none)) { s with heap:=h',toks:=tk }) :
  ∀(r i:Nat)(h:Heap)(tk:Nat),ps.length-i=r->i<=ps.length->(∀b o,h0.get? b=some o->h.get? b=some o)->h.IsListIter it l i->h.DictOfH (A8 prog w) d (ps.take i) →
   codeAny (model prog w) A (.builtin "dict.update.loop" ⟨[.ref d,.ref it,rawInt i,.none],[]⟩) R { s with heap:=h,toks:=tk }:=by
 have j7:∀b o,h0.get? b=some o->b≠it/\b≠d:=fun b o e=>⟨fun z=>(by rw[z,oH]at e;cases e),fun z=>(by rw[z,jV]at e;cases e)⟩;have lk:∀h':Heap,(∀b o,h0.get? b=some o->h'.get? b=some o)->h'.IsList l items:=fun h' k=>by
  obtain⟨o,h1,h2⟩:=hl;exact⟨o,k _ _ h1,h2⟩
 intro r
 induction r with
 |zero=>
  intro i h tk hr hi keep gi gd;have ei:i=ps.length:=by lia
  subst ei;rw[List.take_length]at gd;refine codeAny_builtin Um ?_;rw[Around.under_plainId NC _];show wpAny _ A.in1 (pyNext (.ref it) >>= _) _ _ { s with heap:=h,toks:=tk };refine wpAny_bind (wpAny_pyNext_list_end (s:={ s with heap:=h,toks:=tk }) (A:=A.in1) hh gi (lk h keep) (Array.getElem?_eq_none (by lia)) fun h' ex=>?_);show wpAny _ A.in1 (Builtin.Dict.addKeywords d [] >>= _) _ _ _;have k':∀b o,h0.get? b=some o->h'.get? b=some o:=fun b o e=>ex b o (j7 b o e).1 (keep b o e);refine wpAny_bind (wpAny_pure (wpAny_pure (hR h' tk k' ?_)));obtain⟨od,es,ep,g1,g2,g3,g4,g5,g6⟩:=gd;exact⟨od,es,ep,ex d _ Ry g1,g2,g3,g4,fun q hq=>Qe h' k' q hq,g6⟩
 |succ r ih=>
  intro i h tk hr hi keep gi gd;have Ar:i<ps.length:=by lia
  obtain⟨q,hq⟩:∃q,ps[i]?=some q:=⟨ps[i],List.getElem?_eq_getElem Ar⟩;obtain⟨t,n,dd,sl,ht,pQ⟩:=hit i q hq;refine codeAny_builtin Um ?_;rw[Around.under_plainId NC _];show wpAny _ A.in1 (pyNext (.ref it) >>= _) _ _ { s with heap:=h,toks:=tk };refine wpAny_bind (wpAny_pyNext_list_item (s:={ s with heap:=h,toks:=tk }) gi (lk h keep) ht fun h1 pk mK=>?_);have Jl:∀b o,h0.get? b=some o->h1.get? b=some o:=fun b o e=>mK.extBut b o (j7 b o e).1 (keep b o e);have jc:=Jl _ _ pQ;have hT:Shared.TypeIs { s with heap:=h1,toks:=tk } (.ref t) "tuple":=⟨_,jc,rfl⟩;refine wpAny_bind (wpAny_holding (wpAny_bind (wpAny_tryCatch ?_)));unfold Builtin.Dict.pairItems;refine wpAny_bind (wpAny_typeOf hT ?_);rw[if_pos (by decide)];have o8:∀{Q:Option (Array Value)->Shared->Prop}{E:Value->Shared->Prop},Q (some #[Value.ref q.2.1,q.2.2]) { s with heap:=h1,toks:=tk }->wpAny (model prog w) A.in1 (seqItems? (.ref t)) Q E { s with heap:=h1,toks:=tk }:=fun {Q E} hQ=>by
   unfold seqItems?;wp_walk;exact hQ
  refine wpAny_bind (o8 (wpAny_pure ?_));show wpAny _ A.in1 (holding [Value.ref q.2.1,q.2.2] (dictSet d (Value.ref q.2.1) q.2.2)) _ _ _;have qY:h1.DictOfH (A8 prog w) d (ps.take i):=by
   obtain⟨od,es,ep,g1,g2,g3,g4,g5,g6⟩:=gd;exact⟨od,es,ep,mK.extBut d _ Ry g1,g2,g3,g4,fun x hx=>Qe h1 Jl x (List.mem_of_mem_take hx),g6⟩
  have ap:atKey (ps.take i) q.1=none:=atKey_none_of_get fun j p hj=>by
   have q6:j<i:=by
    have:=(List.getElem?_eq_some_iff.mp hj).1
    rw[List.length_take]at this;lia
   rw[List.getElem?_take_of_lt q6]at hj;have e1:(ps.map (·.1))[j]?=some q.1:=by rw[List.getElem?_map,hj];rfl
   have e2:(ps.map (·.1))[i]?=some q.1:=by rw[List.getElem?_map,hq];rfl
   have:=(List.getElem?_inj (by rw[List.length_map];lia) nd).mp (e1.trans e2.symm)
   lia
  have et:ps.take (i+1)=ps.take i++[q]:=by rw[List.take_add_one,hq];rfl
  refine wpAny_holding (wpAny_dictSet_heap (s:={ s with heap:=h1,toks:=tk }) (knd:=A8 prog w) OQ (Qe h1 Jl q (List.mem_of_getElem? hq)) qY (fun h2 iK nq=>?_) (hsz:=Nat.le_trans (List.length_take_le _ _) (by lia)));rw[storedH_new ap,<-et]at iK;have Fc:∀b o,h0.get? b=some o->h2.get? b=some o:=fun b o e=>nq.extBut b o (j7 b o e).2 (Jl b o e);refine wpAny_pure ⟨plainId_quiet NC _,?_⟩;exact ih (i+1) h2 _ (by lia) Ar Fc (pk.at fun o e=>nq.extBut it o (Ne.symm Ry) e) iK
theorem Qh{l:Addr}{items:Array Value}{n:Nat}{sl:Array (Option Value)}{ps:List (Dat×Addr×Value)}{Q:Value->Shared->Prop}(hh:A.handled=none)(OQ:(A8 prog w).room A.in1.in1)(hl:s.heap.get? l=some { cls:=.type "list",dict:=none,data:=.seq items n,slots:=sl })(nd:(ps.map (·.1)).Nodup)(hit:∀(j:Nat) q,ps[j]?=some q->∃(t:Addr)(n:Nat)(dd:Option Addr)(sl:Array (Option Value)),items[j]?=some (.ref t)/\s.heap.get? t=some { cls:=.type "tuple",dict:=dd,data:=.seq #[.ref q.2.1,q.2.2] n,slots:=sl })(AY:items.size=ps.length)(hz:ps.length<=sizeLine)(Qe:∀h':Heap,(∀b o,s.heap.get? b=some o->h'.get? b=some o)->∀q∈ps,(A8 prog w).is h' q.1 q.2.1)(hR:∀h' tk,(∀b o,s.heap.get? b=some o->h'.get? b=some o)->h'.DictOfH (A8 prog w) s.heap.objs.size ps->Q (.ref s.heap.objs.size) { s with heap:=h',toks:=tk }) :
  wpAny (model prog w) A (call (.type "dict") [.ref l]) Q E s:=by
 refine callType_codes (Q₁:=fun obj s₁=>obj=.ref s.heap.objs.size/\s₁={ s with heap:=s.heap.push { cls:=.type "dict",data:=.dict #[] } }) F.kt_called_dict (F.kt_typeCall_dict_1 _) F.entry_dict_init (kt_code_dict_new _ ⟨rfl,rfl⟩) ?_;rintro obj s₁ ⟨rfl,rfl⟩;have QY:(s.heap.push { cls:=.type "dict",data:=.dict #[] }).DictOfH (A8 prog w) s.heap.objs.size []:=Heap.DictOfH.new s.heap;have k0:∀b o,s.heap.get? b=some o->(s.heap.push { cls:=.type "dict",data:=.dict #[] }).get? b=some o:=fun b o e=>Heap.get?_push_of_some _ e;have cX:=k0 _ _ hl;refine⟨QY.typeIs (s:={ s with heap:=s.heap.push { cls:=.type "dict",data:=.dict #[] } }),F.args_dict_init_2 _ _,?_⟩;unfold Builtin.«dict.__init__»;refine wpAny_bind ?_;unfold Builtin.Dict.selfAndRest;refine wpAny_bind (wpAny_notOrdered_dict (QY.typeIs (s:={ s with heap:=s.heap.push { cls:=.type "dict",data:=.dict #[] } })) ?_);show wpAny _ _ (pure (s.heap.objs.size,[Value.ref l])) _ _ _;refine wpAny_pure ?_;show wpAny _ _ (Builtin.Dict.updateFrom "dict.__init__" s.heap.objs.size (.ref l) [] .none) _ _ _;unfold Builtin.Dict.updateFrom;refine wpAny_bind (wpAny_typeOf (T:="list") ⟨_,cX,rfl⟩ ?_);rw[if_pos (by decide)];refine wpAny_bind (Tf (A:=A.in1.in1) (h:=s.heap.push { cls:=.type "dict",data:=.dict #[] }) (by simpa using hh) cX fun h' t' k1=>?_);rw[if_pos (show(none:Option Value).isNone=true from rfl)];have kk:∀b o,s.heap.get? b=some o->h'.get? b=some o:=fun b o e=>k1 b o (k0 b o e);have il:h'.IsList l items:=⟨_,kk _ _ hl,rfl,n,rfl⟩;have nY:s.heap.objs.size<h'.objs.size:=Heap.lt_size (k1 _ _ (Heap.get?_push_size _ rfl));refine wpAny_bind (wpAny_rule (wpAny_bind (wpAny_pyIter_list (s:={ s with heap:=h',toks:=t' }) il (wpAny_pure ⟨plainId_quiet NC _,?_⟩))));refine VX (A:=A.in1) (h0:=s.heap) (s:=s) (by simpa using hh) OQ (Nat.ne_of_lt nY) ?_ ?_ ⟨_,hl,rfl,n,rfl⟩ ps nd hit AY hz Qe (fun h2 tk k2 iK=>⟨rfl,hR h2 tk k2 iK⟩) ps.length 0 _ _ (Nat.sub_zero _) (Nat.zero_le _) (fun b o e=>Heap.get?_push_of_some _ (kk b o e)) ⟨_,Heap.get?_push_size _ rfl,rfl,rfl⟩ ?_
 ·cases e:s.heap.get? s.heap.objs.size with
  |none=>rfl
  |some o=>exact absurd (Heap.lt_size e) (Nat.lt_irrefl _)
 ·cases e:s.heap.get? h'.objs.size with
  |none=>rfl
  |some o=>exact absurd (Heap.lt_size e) (Nat.not_lt.mpr (Nat.le_of_lt nY))
 ·obtain⟨od,es,ep,g1,g2,g3,g4,g5,g6⟩:=QY;exact⟨od,es,ep,Heap.get?_push_of_some _ (k1 _ _ g1),g2,g3,g4,fun x hx=>by simp at hx,g6⟩
end
section
variable {X:Cx}{AD:List (Addr×Obj)}{σ:St}{H:Hp}{s:Shared}{G:Gs}
theorem Nu(I:Inv X AD σ H s):∀{L:List (Sq×Int)}{vs:List V}{AO:List Value},RepL X.K (hid H G) (L.map pi) vs->Vals vs AO →
  ∃ps:List (Dat×Addr×Value),ps.length=L.length/\AO.length=L.length/\ps.map (·.1)=L.map (fun q=>sq q.1)/\DRep X.K (hid H G) (L.map fun q=>(sq q.1,.int q.2)) ps ∧
   ∀(j:Nat) q,ps[j]?=some q->∃(t:Addr)(n:Nat)(dd:Option Addr)(sl:Array (Option Value)),AO[j]?=some (.ref t)/\s.heap.get? t=some { cls:=.type "tuple",dict:=dd,data:=.seq #[.ref q.2.1,q.2.2] n,slots:=sl }
 |[],vs,AO,r,v=>by
  rw[List.map_nil,RepL]at r;subst r;cases v;exact⟨[],rfl,rfl,rfl,rfl,fun j q h=>by simp at h⟩
 |p::L,vs,AO,r,v=>by
  rw[List.map_cons,RepL]at r;obtain⟨v1,w1,rfl,h1,r⟩:=r;cases v with
  |cons rv v=>
  rename_i u us;obtain⟨ps,z1,z2,z3,z4,z5⟩:=Nu I r v;unfold pi at h1;rw[Rep]at h1;obtain⟨t,ws,rfl,ht,Zw⟩:=h1;rw[RepL]at Zw;obtain⟨a1,w2,rfl,Ua,Zw⟩:=Zw;rw[RepL]at Zw;obtain⟨a2,w3,rfl,Z4,Zw⟩:=Zw;rw[RepL]at Zw;subst Zw;rw[Rep]at Z4;subst Z4;have hk:∃k,a1=V.ref k:=by
   have:=Ua
   unfold sq at this;rw[Rep]at this;obtain⟨k,_,e,_⟩:=this;exact⟨k,e⟩
  obtain⟨k,rfl⟩:=hk;cases rv;obtain⟨its',v',tu,_⟩:=I.tuple (An AJ ht);cases v' with
  |cons q1 v'=>
  cases v' with
  |cons q2 v'=>
  cases v';cases q1;obtain⟨tk,rfl⟩:=q2;refine⟨(sq p.1,k,Value.int p.2 tk)::ps,by simp[z1],by simp[z2],by simp[z3],⟨k,_,ps,rfl,CC p.1,Ua,⟨.int p.2,⟨tk,rfl⟩,by rw[Rep]⟩,z4⟩,fun j q hj=>?_⟩;cases j with
  |zero=>
   simp only[List.getElem?_cons_zero,Option.some.injEq]at hj;subst hj;obtain⟨o,ho,hc,n,hd⟩:=tu;obtain⟨oc,od,oS,Tj⟩:=o;simp only at hc hd;subst hc;subst hd;exact⟨t,n,od,Tj,rfl,ho⟩
  |succ j=>simpa using z5 j q (by simpa using hj)
theorem Vg{p:Addr}{Ad:List (Dat×Dat)}{xs:List (Dat×Addr×Value)}(o:GOk X.K H G)(hp:H p=none)(r:DRep X.K (hid H G) Ad xs):Ext H G (upd H p (EN p xs)) (put G p (.dct Ad))/\GOk X.K (upd H p (EN p xs)) (put G p (.dct Ad)):=by
 obtain⟨E1,O1⟩:=J4 (X:=X) o hp;obtain⟨E2,O2⟩:=MU (X:=X) O1 AI (r.same E1.hid);rw[A3]at E2 O2;have e:upd (upd H p (EN p [])) p (EN p xs)=upd H p (EN p xs):=by
  funext b;by_cases hb:b=p
  ·subst hb;rw[Ax,Ax]
  ·rw[AR hb,AR hb,AR hb]
 rw[e]at E2 O2;exact⟨E1.trans E2,O2⟩
end
section
variable {X:Cx}{ρ:Rho}{G:Gs}{a:Expr}{L:List (Sq×Int)}{pos pp:Pos}
theorem Nn{Q:Dat->Gs->Prop}(hm:X.mg "dict"=none)(hu:X.A.units+20<cLine)(BI:X.calm=true)(ha:PX X ρ G a (.lst (L.map pi)))(nd:(L.map (·.1)).Nodup)(h:∀p,G p=none->Q (.fn p) (put G p (.dct (L.map fun q=>(sq q.1,.int q.2)))))(hg:Gl X "dict":=by rfl)(he:starEach [a] X.env=(false,eval a X.env)::starEach [] X.env:=by rfl):WE X ρ G (.Call (.Name "dict" pp) [a] [] pos) Q:=fun AD s σ H I S=>by
 refine wpAny_Call_Name_kw (Cv I hg hm (by decide +kernel:bootBuiltins "dict"=some (.type "dict")) ?_ (by decide) (by decide));refine PyProof.Rows.callWith_type1 (PyProof.Rows.spliced_more (thn (ha AD s σ H I S) fun u s1 ⟨x,H1,I1,r1,d,G1,e1,o1,rx,q1,q2⟩=>PyProof.Rows.spliced_none ?_) he) he rfl;subst q1;subst q2;rw[Rep]at rx;obtain⟨p,vs,rfl,h1,h2⟩:=rx;cases r1;obtain⟨AO,r',pl,hz⟩:=I1.list (SqL.of (AJ _ _ h1));obtain⟨ps,z1,z2,z3,z4,z5⟩:=Nu I1 h2 r';obtain⟨⟨oc,od,oS,Tj⟩,n,ho,hc,mR,hd⟩:=pl;simp only at hc mR hd;subst hc;subst mR;subst hd;have pv:(ps.map (·.1)).Nodup:=by
  rw[z3]
  have:=List.pairwise_map.mp nd
  exact List.pairwise_map.mpr (this.imp fun {a b} IG e=>IG (Fh (by rw[e])))
 have dS:ps.length<=sizeLine:=by
  have:=r'.length
  lia
 refine Qh (ps:=ps) (I1.ok.hd BI) (show X.A.units+1+1+6<cLine by lia) ho pv (fun j q hj=>by simpa using z5 j q hj) (by simp[z1,z2]) dS (fun h' k q hq=>?_) fun h' tk k gd=>?_
 ·have ik:Inv X AD σ H1 { s1 with heap:=h' }:=I1.kept (t':=s1.toks) k;obtain⟨k1,k2⟩:=z4.keys q hq;exact Ig ik k1 (k2.same AJ)
 ·obtain⟨od,es,ep,g1,g2,g3,g4,g5,g6⟩:=gd;have hp:H1 s1.heap.objs.size=none:=I1.hok.fresh (Nat.le_refl _);obtain⟨E,O⟩:=Vg (X:=X) o1 hp z4;refine⟨.ref s1.heap.objs.size,_,I1.laid (a:=s1.heap.objs.size) (o:=EN s1.heap.objs.size ps) (t':=tk) k (Nat.le_refl _) (Kb ⟨beq_eq_false_iff_ne.mpr (Ne.symm (Nat.ne_of_lt (Inv.big I1))),dS,g6,od,es,ep,g1,g2,g3,g4⟩),rfl,?_⟩;exact⟨.fn s1.heap.objs.size,_,e1.trans E,O,rfl,h _ (o1.free hp)⟩
end
section
variable {X:Cx}{ρ:Rho}{G:Gs}{a b c:Expr}{d:Dat}{pos:Pos}{x y:Str}
theorem Ww{p:Bool}(hc:PXT X ρ G c p)(ha:p=true->PX X ρ G a d)(hb:p=false->PX X ρ G b d):PX X ρ G (.IfExp c a b pos) d:=by
 intro AD s σ H I S;refine wpAny_IfExp (thn (hc AD s σ H I S) fun q s1 ⟨H1,I1,_,e1,o1,q1,q2⟩=>?_);subst q1;subst q2;cases q with
 |true=>exact thn (ha rfl AD s1 σ H1 I1 (S.ext e1 o1)) fun _ _ z=>EP.mono z fun _ _ y=>Po.trans e1 y
 |false=>exact thn (hb rfl AD s1 σ H1 I1 (S.ext e1 o1)) fun _ _ z=>EP.mono z fun _ _ y=>Po.trans e1 y
end
def KD(H H':Hp):Prop:=∀b o,H b=some o->H' b=some o\/∃φ,o=HO.ext φ
theorem gW{K:PySem.W.Frag}{H H':Hp}{a:Addr}{xs:List V}(e:KD H H')(h:SqT K H a xs):SqT K H' a xs:=by
 rcases h with(h|⟨o,h⟩)|h
 ·rcases e _ _ h with h|⟨φ,h⟩
  ·exact .inl (.inl h)
  ·cases h
 ·rcases e _ _ h with h|⟨φ,h⟩
  ·exact .inl (.inr ⟨o,h⟩)
  ·cases h
 ·exact .inr h
theorem dw{K:PySem.W.Frag}{H H':Hp}{a:Addr}{xs:List V}(e:KD H H')(h:SqL K H a xs):SqL K H' a xs:=by
 rcases h with(h|⟨o,h⟩)|h
 ·rcases e _ _ h with h|⟨φ,h⟩
  ·exact .inl (.inl h)
  ·cases h
 ·rcases e _ _ h with h|⟨φ,h⟩
  ·exact .inl (.inr ⟨o,h⟩)
  ·cases h
 ·exact .inr h
mutual
theorem Rep.x{K:PySem.W.Frag}{H H':Hp}(e:KD H H'):∀{d:Dat}{v:V},Rep K H d v->Rep K H' d v
 |.non,_,h=>by simpa[Rep]using h
 |.bl _,_,h=>by simpa[Rep]using h
 |.int _,_,h=>by simpa[Rep]using h
 |.str _,_,h=>by simpa[Rep]using h
 |.fn _,_,h=>by simpa[Rep]using h
 |.scr _,_,h=>by
  obtain⟨a,h1,h2⟩:=(by simpa[Rep]using h:∃a,_=V.ref a/\SqL K H a _);rw[Rep];exact⟨a,h1,dw e h2⟩
 |.tup _,_,h=>by
  rw[Rep]at h ⊢;obtain⟨a,vs,h1,h2,h3⟩:=h;exact⟨a,vs,h1,gW e h2,RepL.x e h3⟩
 |.lst _,_,h=>by
  rw[Rep]at h ⊢;obtain⟨a,vs,h1,h2,h3⟩:=h;refine⟨a,vs,h1,?_,RepL.x e h3⟩;rcases e _ _ h2 with h|⟨φ,h⟩
  ·exact h
  ·cases h
theorem RepL.x{K:PySem.W.Frag}{H H':Hp}(e:KD H H'):∀{ds:List Dat}{vs:List V},RepL K H ds vs->RepL K H' ds vs
 |[],_,h=>by rw[RepL]at h ⊢;exact h
 |_::_,_,h=>by
  rw[RepL]at h ⊢;obtain⟨v,r,h1,h2,h3⟩:=h;exact⟨v,r,h1,Rep.x e h2,RepL.x e h3⟩
end
theorem DRep.x{K:PySem.W.Frag}{H H':Hp}(e:KD H H'):∀{Ad:List (Dat×Dat)}{xs:List (Dat×Addr×Value)},DRep K H Ad xs->DRep K H' Ad xs
 |[],_,h=>h
 |_::_,_,⟨a,u,Lb,h1,h2,h3,⟨v,h4,h5⟩,h6⟩=>⟨a,u,Lb,h1,h2,h3.x e,⟨v,h4,h5.x e⟩,DRep.x e h6⟩
theorem OwnOk.x{K:PySem.W.Frag}{H H':Hp}{G G':Gs}{a:Addr}{o:OD}(h:OwnOk K H G a o)(e:KD (hid H G) (hid H' G'))(q:H' a=H a):OwnOk K H' G' a o:=by
 cases o with
 |lst l=>
  obtain⟨vs,h1,h2⟩:=h;exact⟨vs,q.trans h1,h2.x e⟩
 |dct Ad=>
  obtain⟨xs,h1,h2⟩:=h;exact⟨xs,q.trans h1,h2.x e⟩
def exO(p:Addr)(o:Obj):HO:=.ext fun h=>h.get? p=some o
theorem bP{P:Program}{w:World}{H:Hp}{h:Heap}{p:Addr}{o:Obj}(e:h.get? p=some o):ObjOk P w H h p (exO p o):=⟨e,⟨o,e⟩,fun _ _ q k=>k _ q⟩
def ItO(p:Addr)(o:Obj)(vs:List V):It:=⟨fun i H=>H p=some (exO p o)/\i<vs.length,fun i H x H'=>H'=H/\vs[i]?=some x,fun i H=>H p=some (exO p o)/\vs.length=i⟩
theorem Wr{P:Program}{w:World}{K:PySem.W.Frag}{tg:Expr}{p it:Addr}{o:Obj}{vs:List V}{AO:List Value}{n:Nat}(hv:Vals vs AO)(Xi:o.cls=.type "list")(Np:o.data=.seq AO.toArray n):Turn P w K tg (ItO p o vs) [it] it (fun i h=>h.IsListIter it p i) where
 mem:=by simp
 obj:=fun i h st b hb=>by
  have e:b=it:=by simpa using hb
  subst e;obtain⟨o,e,c,d⟩:=st;exact⟨o,e,fun v z=>by rw[d]at z;cases z⟩
 keep:=fun i h h' st k=>st.at fun o e=>k it (by simp) o e
 item:=by
  intro X hP hw hK hc i AD s σ H E I hf st hg;subst hP hw hK;obtain⟨hp,hi⟩:=hg;obtain⟨e,_,_⟩:=(show ObjOk X.prog X.w H s.heap p (exO p o)from I.hok p _ hp);obtain⟨f0,f1,f2,f3,f4,f5⟩:=hf it (by simp);have hx:vs[i]?=some vs[i]:=List.getElem?_eq_getElem hi;obtain⟨u,hu,ru⟩:=hv.get hx;refine wpAny_pyNext_list_item st (items:=AO.toArray) ⟨o,e,Xi,n,Np⟩ (x:=u) (by simpa using hu) fun h' AN sb=>?_;have I1:Inv X AD σ H { s with heap:=h' }:=I.turned (t':=s.toks) (fun b o hb e=>(sb.2 b hb).trans e) f0 f1 f3 f4 f5;obtain⟨o,e,c,d⟩:=id AN;exact⟨u,rfl,RH (s:={ s with heap:=h' }) e c d (by decide) ⟨vs[i],H,I1,ru,⟨rfl,hx⟩,AN,fun b hb=>(hf b hb).1⟩⟩
 done:=by
  intro X hP hw hK hc i AD s σ H E I hf st hg;subst hP hw hK;obtain⟨hp,rfl⟩:=hg;obtain⟨e,_,_⟩:=(show ObjOk X.prog X.w H s.heap p (exO p o)from I.hok p _ hp);obtain⟨f0,f1,f2,f3,f4,f5⟩:=hf it (by simp);have hl:=hv.length;exact wpAny_pyNext_list_end (I.ok.hd hc) st (items:=AO.toArray) ⟨o,e,Xi,n,Np⟩ (by simp;lia) fun h' eb=>⟨rfl,I.turned (t':=s.toks) (fun b o hb e=>eb b o hb e) f0 f1 f3 f4 f5⟩
 self:=fun _ _ _ _ _ st h=>wpAny_pyIter_listiter st h
section
variable {X:Cx}{ρ:Rho}{G:Gs}{elt AL Ac:Expr}{scope:Scope}{Au:Pos}{Nc:List Str}{caps:List (Option Nat)}{f:Dat->Rho->Option Rho}{p:Addr}{l:List Dat}
theorem Uo(g:Dat->Dat)(Sc:CompSc X scope Nc caps)(BI:X.calm=true)(ha:PX X ρ G Ac (.fn p))(hG:G p=some (.lst l))(hg:∀C s' H' fp,PGD (AW X Nc scope C s' H' fp) AL f)(hle:∀d ρ',f d (A6 caps ρ)=some ρ'->ρ'.length=(A6 caps ρ).length/\∀(j:Nat) e,(A6 caps ρ)[j]?=some (some e)->ρ'[j]?=some (some e))(hz:l.length<sizeLine)(CI:∀C s' H' fp G' d,d∈l->∃ρ',f d (A6 caps ρ)=some ρ'/\PX (AW X Nc scope C s' H' fp) ρ' G' elt (g d))(OZ:∀x,foldedSetIterable Ac X.env x=pure x:=by intro _;rfl) :
  PX X ρ G (.ListComp elt [⟨AL,Ac,[],0⟩] scope Au) (.lst (l.map g)):=by
 intro AD s σ H I S;rw[eval_ListComp];refine wpAny_comprehension_free (use:=none) rfl OZ (Cc fun x hx hf=>I.ok.has x.1 (Sc.free x hx hf)) Sc.kind Sc.names ?_;refine thn (ha AD s σ H I S) fun v s1 ⟨x,H1,I1,rx,_,G1,e1,o1,r1,q1,BZ⟩=>?_;subst q1;subst BZ;cases (show x=V.ref p from r1);cases rx;obtain⟨vs,hp,dr⟩:=o1 p _ hG;obtain⟨qU,AO,n,hv,pl⟩:=(show ObjOk X.prog X.w H1 s1.heap p (.lst vs)from I1.hok p _ hp);obtain⟨o,ho⟩:∃o:Obj,o={ cls:=Value.type "list",data:=Data.seq AO.toArray n }:=⟨_,rfl⟩;have Xi:o.cls=.type "list":=by rw[ho]
 have Np:o.data=.seq AO.toArray n:=by rw[ho]
 rw[<-ho]at pl;have ll:l.length=vs.length:=dr.length.symm;refine wpAny_pyIter_list (items:=AO.toArray) ⟨o,pl,Xi,n,Np⟩ ?_;have aV:∀b,G1 b=none->b≠p:=fun b h e=>by subst e;rw[hG]at h;cases h
 have gq:∀b,b≠p->upd H1 p (exO p o) b=H1 b:=fun b hb=>AR hb;have E2:Ext H1 G1 (upd H1 p (exO p o)) (rel G1 p):=⟨fun b u e h=>by rw[gq b (aV b h)];exact e,fun b h=>by
  by_cases hb:b=p
  ·subst hb;rw[B3]at h;exact absurd rfl h
  ·rw[Dp hb]at h;exact .inl h⟩
 have O2:GOk X.K (upd H1 p (exO p o)) (rel G1 p):=fun b u q=>by
  have hb:b≠p:=by rintro rfl;rw[B3]at q;cases q
  rw[Dp hb]at q;exact(o1 b u q).ext E2.hid (gq b hb)
 have hpl:p<s1.heap.objs.size:=Heap.lt_size pl;obtain⟨oi,PY⟩:∃oi:Obj,oi={ cls:=.type "list_iterator",data:=.fields #[.ref p,.int 0 0] }:=⟨_,rfl⟩;have kp:∀b u,s1.heap.get? b=some u->(s1.heap.push oi).get? b=some u:=fun b u e=>Heap.get?_push_of_some _ e;have I2:Inv X AD σ (upd H1 p (exO p o)) { s1 with heap:=s1.heap.push oi,toks:=s1.toks }:=
  I1.write (x:=p) (e:=p) (by rw[hp];trivial) (.inl rfl) (fun b u _ e=>kp b u e) ⟨o,kp _ _ pl⟩ (bP (kp _ _ pl))
 have qq:∀b∈[s1.heap.objs.size],IY X AD (upd H1 p (exO p o)) b:=fun b hb=>by
  rw[List.mem_singleton.mp hb]
  have:=I1.fpOk (b:=s1.heap.objs.size) (Nat.le_refl _) (I1.hok.fresh (Nat.le_refl _))
  obtain⟨f0,f1,f2,f3,f4,f5⟩:=this;exact⟨by rw[gq _ (Nat.ne_of_gt hpl)];exact f0,f1,f2,f3,f4,f5⟩
 have wk:Wk X.K (ItO p o vs) (upd H1 p (exO p o)) (rel G1 p) l:=by
  intro H' G' e;have Se:H' p=some (exO p o):=e.keep p _ Ax B3;refine⟨fun i d hd=>?_,Se,ll.symm⟩;have hi:i<vs.length:=by rw[<-ll];exact(List.getElem?_eq_some_iff.mp hd).1
  refine⟨⟨Se,hi⟩,fun x Xh hh=>?_⟩;obtain⟨rfl,hx⟩:=hh;obtain⟨v,Xn,rv⟩:=dr.get hd;rw[hx]at Xn;cases Xn;refine⟨Ext.refl,fun z=>z,fun _=>?_⟩;exact(rv.same E2.hid).same e.hid
 rw[show(s1.heap.push _)=s1.heap.push oi from by rw[PY]];refine IH (ρ:=ρ) (G:=rel G1 p) (l:=l) (H:=upd H1 p (exO p o)) (RR:=fun Ae C=>compPost (model X.prog X.w) X.A X.xe none (EP X AD σ (Po X H G1 fun d' G'=>d'=.lst (l.map g)/\G'=G1)) Ae C) (fun i Ae G'=>G'=rel G1 p/\Ae=(l.take i).map g) (IE elt AL Ac scope Au) Sc BI hg hle (Nat.le_of_lt hz) ?_ I2 (S.ext (e1.trans E2) O2) (Wr (it:=s1.heap.objs.size) hv Xi Np) ⟨_,Heap.get?_push_size _ (by rw[PY];rfl),by rw[PY],by rw[PY];rfl⟩ qq wk ⟨rfl,by simp⟩ ?_
 ·rintro C s' H' fp Dd i d Ae G' hd ⟨rfl,rfl⟩ hD;obtain⟨ρ',h1,h2⟩:=CI C s' H' fp (put (rel G1 p) Dd (.lst ((l.take i).map g))) d (List.mem_of_getElem? hd);refine⟨ρ',h1,Ee rfl AI ?_ (PX.we h2 ⟨AI,_,rel G1 p,?_,hD,A3,rfl,?_⟩)⟩
  ·have:((l.take i).map g).length<=l.length:=by rw[List.length_map,List.length_take];lia
   lia
  ·simp
  ·rw[List.take_add_one,hd];simp
 ·rintro D C s3 sf σc Hf Gf Ae k3 rfl ⟨H3,I3,f3,Ic⟩ ef of gG ⟨rfl,rfl⟩;obtain⟨m,hm,_⟩:=Ic.loc;refine⟨m,hm,fun h' hs=>?_⟩;have If:=K6 I3 f3 Ic hs;obtain⟨E3,O3,R3⟩:=HZ (X:=X) of AI;rw[BG gG]at E3 O3 R3;have E4:=ef.trans E3;have i7:Hf p=some (exO p o):=E4.keep p _ Ax B3;obtain⟨zz,_,_⟩:=(show ObjOk X.prog X.w Hf _ p (exO p o)from If.hok p _ i7);have I4:=If.write (t':=sf.toks) (x:=p) (e:=p) (o:=.lst vs) (by rw[i7];trivial) (.inl rfl) (fun b u _ e=>e) ⟨o,zz⟩ ⟨qU,AO,n,hv,by rw[zz,ho]⟩;have kW:∀b,b≠p->upd Hf p (.lst vs) b=Hf b:=fun b hb=>AR hb;have pD:∀b u,H1 b=some u->G1 b=none->upd Hf p (.lst vs) b=some u:=fun b u e h=>by
   have hb:=aV b h;rw[kW b hb];exact E4.keep b u (by rw[gq b hb];exact e) (by rw[Dp hb];exact h)
  have E5:Ext H1 G1 (upd Hf p (.lst vs)) G1:=⟨pD,fun b h=>.inl h⟩;have SX:KD (hid Hf (rel G1 p)) (hid (upd Hf p (.lst vs)) G1):=fun b u h=>by
   obtain⟨h1,h2⟩:=MO h;by_cases hb:b=p
   ·subst hb;rw[i7]at h2;cases h2;exact .inr ⟨_,rfl⟩
   ·rw[Dp hb]at h1;exact .inl (EY h1 (by rw[kW b hb];exact h2))
  refine⟨.ref D,_,I4,rfl,.lst _,G1,e1.trans E5,fun b u q=>?_,R3.x SX,by rw[List.take_length],rfl⟩;by_cases hb:b=p
  ·subst hb;rw[hG]at q;cases q;exact⟨vs,Ax,dr.same E5.hid⟩
  ·exact(O3 b u (by rw[Dp hb];exact q)).x SX (kW b hb)
end
section
variable {X:Cx}{ρ:Rho}{G:Gs}{a:Expr}{pos pp:Pos}{l:List Dat}{i:Int}
theorem Vt(hm:X.mg "abs"=none)(ha:PX X ρ G a (.int i))(hg:Gl X "abs":=by rfl)(he:starEach [a] X.env=(false,eval a X.env)::starEach [] X.env:=by rfl):PX X ρ G (.Call (.Name "abs" pp) [a] [] pos) (.int (i.natAbs:Nat)):=PX.cast (Co Wl hg hm (by decide +kernel) ha (fun H x Q o r k=>by
  rw[Rep]at r;subst r;exact⟨i,rfl,k _ _ (Ba (d:=.int (if i<0 then -i else i)) o rfl)⟩) (he:=he)) (by congr 1;split<;>lia)
theorem XT{Q:Dat->Gs->Prop}(hm:X.mg "list"=none)(ha:PX X ρ G a (.tup l))(q:∀p,G p=none->Q (.fn p) (put G p (.lst l)))(hg:Gl X "list":=by rfl)(he:starEach [a] X.env=(false,eval a X.env)::starEach [] X.env:=by rfl):WE X ρ G (.Call (.Name "list" pp) [a] [] pos) Q:=Bb (L3 M7 hg hm (by decide +kernel) (A7 Av CW he) (by decide) (by decide) he rfl) fun σ H S=>⟨ρ,G,_,ha,S,fun x H1 ⟨_,_,e1,o1,r1,q1,BZ⟩=>by
  subst q1;subst BZ;rw[Rep]at r1;obtain⟨p,vs,e,h1,r1⟩:=r1;refine⟨p,vs,by rw[e],.inr (An AJ h1),fun t ht=>?_⟩;obtain⟨E,O⟩:=MW o1 ht r1;exact⟨.fn t,_,e1.trans E,O,rfl,q t (o1.free ht)⟩⟩
end
section
variable {X:Cx}{AD:List (Addr×Obj)}{σ:St}{H1 H':Hp}{s1 s':Shared}
theorem Yt(I:Inv X AD σ H1 s1)(hx:X.ex=[])(LH:X.env.frame=some X.env.locals){ea:Addr}{cls a0:Value}{B h':Heap}(f0:s'.heap.FunFrames B (X.env::X.outer))(f2:HOk X.prog X.w H' B)(f3:∀b o,s1.heap.get? b=some o->H1 b=none->b∉frs (X.env::X.outer)->B.get? b=some o)(f4:∀b o,s1.heap.get? b=some o->b∉frs (X.env::X.outer)->∃o',B.get? b=some o')(Xw:Un (frs (X.env::X.outer)) [] H1 H' s1.heap s'.heap)(free:H' ea=none)(g1:Heap.FlyingW B X.outer ea cls a0 h')(up:s'.heap.UpToSlots h'):Fly X.prog X.w X.outer X.H₀ X.s₀.heap H' h' ea cls:=by
 have gP:frs (X.env::X.outer)=X.env.locals::frs X.outer:=Kd LH;have Xg:∀b o,X.s₀.heap.get? b=some o->b≠X.env.locals:=fun b o e=>Nat.ne_of_lt (Nat.lt_of_lt_of_le (Heap.lt_size e) I.ok.above);have T8:∀b o,X.s₀.heap.get? b=some o->b∉frs X.outer->b∉frs (X.env::X.outer):=fun b o e hb JK=>by
  rw[gP]at JK;rcases List.mem_cons.mp JK with z|z
  ·exact Xg b o e z
  ·exact hb z
 have base:=I.base;rw[hx]at base;have qp:Un X.fs [] X.H₀ H' X.s₀.heap s'.heap:=by
  refine⟨fun b o q n hb hc=>?_,fun b o q n hb hc=>?_,fun b o q n hc=>?_,fun b o q hc=>?_,fun b xs q=>Xw.tups b xs (base.tups b xs q),fun b o u q=>Xw.frzs b o u (base.frzs b o u q),fun b ps q=>?_⟩
  ·exact Xw.keep b o (base.keep b o q n hb hc) (base.free b o q n hc) (T8 b o q hb) hc
  ·obtain⟨sl,e1⟩:=base.slot b o q n hb hc;obtain⟨fO,e2⟩:=Xw.slot b _ e1 (base.free b o q n hc) (by rw[gP];exact List.mem_cons_of_mem _ hb) hc;exact⟨fO,e2⟩
  ·obtain⟨o',e1⟩:=base.there b o q hc;exact Xw.free b o' e1 (base.free b o q n hc) hc
  ·obtain⟨o',e1⟩:=base.there b o q hc;exact Xw.there b o' e1 hc
  ·obtain⟨m1,e1⟩:=base.tbls b ps q;obtain⟨m2,e2⟩:=Xw.tbls b _ e1;exact⟨m1++m2,by rw[e2,Array.append_assoc]⟩
 refine Fly.step qp free f2 (fun b o q n hb=>?_) (fun b o q hb=>?_) (outer0:=X.env::X.outer) f0 (fun b hb=>by rw[gP];exact List.mem_cons_of_mem _ hb) g1 up
 ·exact f3 b o (base.keep b o q n hb (by simp)) (base.free b o q n (by simp)) (T8 b o q hb)
 ·obtain⟨o',e1⟩:=base.there b o q (by simp);exact f4 b o' e1 (T8 b o q hb)
theorem V8{E:Value->Shared->Prop}(I:Inv X AD σ H1 s1)(hx:X.ex=[])(JN:X.stack=X.env::X.outer)(LH:X.env.frame=some X.env.locals){ea:Addr}{cls:Value}(fl:Fly X.prog X.w X.stack H1 s1.heap H' s'.heap ea cls){Q:Unit->Shared->Prop}(hQ:∀h',Fly X.prog X.w X.outer X.H₀ X.s₀.heap H' h' ea cls->Q () { s' with heap:=h' }):wpAny (model X.prog X.w) X.A (leaving X.env (.ref ea)) Q E s':=by have N5:=I.ok.frames;rw[JN]at N5 fl;obtain⟨⟨a0,B,f1,f2,f3,f4⟩,Xw,free⟩:=fl;exact wpAny_leaves_onW N5 LH f1 fun h' g1 up=>hQ h' (Yt I hx LH f1.2.2.1 f2 f3 f4 Xw free g1 up)
end
section
variable {P:Program}{w:World}{K:PySem.W.Frag}{mg:Str->Option Value}{base:Heap}
theorem fL{x qual:Str}{st:Stmt}{f:Addr}{fd:FuncData}{N ps:List Str}{k:Nat}{S:SpX}(F:Fun K x qual st f fd)(Sc:FnScope N ps (AF st))(AY:∀ds G R RX,S ds G R RX->ds.length=ps.length)(hb:∀(Aw:Value)(A:Around)(outer:List Env)(s:Shared)(H:Hp)(E:XK)(ds:List Dat)(G:Gs)(R:Dat->Gs->Prop)(RX:Value->Gs->Prop),Room k (A.deeper (envOfC qual (AF st) s.heap.objs.size f Aw))->S ds G R RX →
   PZ (Es CX0 P w K mg base N qual (AF st) f Aw A outer s H E).nox (EO N ds) G (BM st) { nx:=fun _ G'=>R .non G',rt:=R } RX):FnOk P w K mg base (CXV P w) (k+1) f fd ps (JC K S):=by
 obtain⟨oc,od,kV,doc,pm,an,Aw,ct,Tj,rfl,lk,RB⟩:=F.ex;refine VN lk RB Sc (fun vs H Q E h=>?_) (fun A outer s H vs Q E hr h=>?_)
 ·obtain⟨ds,G,R,RX,_,r,hS,_⟩:=h;rw[r.length];exact AY ds G R RX hS
 ·obtain⟨ds,G,R,RX,o,r,hS,k1,k2⟩:=h;refine⟨fun D σ H1=>D={ nx:=fun _ H'=>Q .non H',rt:=Q }/\σ=start N vs/\H1=H,?_,rfl,rfl,rfl⟩;intro AD s1 σ H1 D I hq;obtain⟨rfl,rfl,rfl⟩:=hq;have hw:=hb Aw A outer s H1 E ds G R RX hr hS AD s1 (start N vs) H1 (I.wish fun _ _=>False) (Ib o r);refine wpAny_mono hw (fun fl s2 z=>?_) fun e s2 z=>?_
  ·refine SP.le (SP.unwish (X:=Es (CXV P w) P w K mg base N qual (AF st) f Aw A outer s H1 E) (E:=fun _ _=>False) z) (fun σ' H'=>?_) (fun v H'=>?_) (fun σ' H'=>?_) fun σ' H'=>?_
   ·rintro⟨ρ',G',e',S',q⟩;exact k1 .non H' .non G' e' S'.own rfl q
   ·rintro⟨d,G',e',o',r',q⟩;exact k1 v H' d G' e' o' r' q
   ·rintro⟨_,_,_,_,q⟩;exact q
   ·rintro⟨_,_,_,_,q⟩;exact q
  ·obtain⟨ea,cls,s3,H3,H',G',rfl,I3,Nq,L0,Vl,ex,go,rx⟩:=z;have J:Inv (Es (CXV P w) P w K mg base N qual (AF st) f Aw A outer s H1 E) AD (start N vs) H3 s3:=Inv.unwish (E:=fun _ _=>False) I3;refine V8 (X:=Es (CXV P w) P w K mg base N qual (AF st) f Aw A outer s H1 E) J rfl rfl rfl Vl fun h' iY=>?_;exact⟨ea,cls,H',rfl,Nq.trans J.os,L0,iY,k2 cls H' G' ex go rx⟩
end
section
variable {prog:Program}{w:World}{A:Around}{E:Value->Shared->Prop}{h:Heap}{g:Array GenState}{d:Drawn}{t:Nat}{os:OsState}{a:Addr}{o:Obj}
 {nm q:Str} {C N:Addr} {bs bm:List Value} {hdct:Bool} {sn:List Str} {sub:List Value} {ab:Bool} {col:Option Bool} {dd:Option Addr} {k0 k1 k2 k3 k5:Option Value} {newId:String}
end
def Mf:SpD:=fun ds G R=>∃F:List Sq,ds=[fl F]/\F.length<=1000/\F.Pairwise AZ/\R (.bl true) G
def Uv(N:Addr):SpX:=fun ds G R RX=>∃(F:List Sq)(d:Dat),ds=[fl F,d]/\Good F/\Be F=false/\RX (.ref N) G
theorem FXP.trans{X:Cx}{AD:List (Addr×Obj)}{σ:St}{H H1:Hp}{G G1:Gs}{RX:Value->Gs->Prop}{e:Value}{s':Shared}(x:Ext H G H1 G1)(h:FXP X AD σ H1 G1 RX e s'):FXP X AD σ H G RX e s':=by obtain⟨ea,cls,s1,H2,H',G',a,b,c,d,f,g,o,r⟩:=h;exact⟨ea,cls,s1,H2,H',G',a,b,c,d,f,x.trans g,o,r⟩
def tri(t:Sq×Sq×Sq):Dat:=.tup [sq t.1,sq t.2.1,sq t.2.2]
def Sj:SpD:=fun ds G R=>∃c:Sq,ds=[sq c]/\R (.lst ((Iv c).map tri)) G
def SI:SpD:=fun ds G R=>∃c:Sq,ds=[sq c]/\R (.bl ((c.1+c.2)%2==0)) G
def N1:SpD:=fun ds G R=>∃(F:List Sq)(l:Lay)(a b:Sq),ds=[fl F,lay l,sq a,sq b]/\R (.bl (Lz F l a b)) G
def Ov:SpD:=fun ds G R=>∃(F:List Sq)(l:Lay)(c:Sq),ds=[fl F,lay l,sq c]/\R (.lst ((Bx F l c).map pi)) G
def htL(h:Lay->Sq->Int)(F:List Sq)(l:Lay):List (Sq×Int):=(Aq F).map fun y=>(y,h l y-h l (F.headD (0,0)))
def bS:SpD:=fun ds G R=>∃(F:List Sq)(l:Lay)(h:Lay->Sq->Int),ds=[fl F,lay l]/\Pl F h/\Be F=true/\IsLay F l/\R (.lst ((htL h F l).map pi)) G
def Z0:SpD:=fun ds G R=>∃(F:List Sq)(l m:Lay)(h:Lay->Sq->Int),ds=[fl F,lay l,lay m]/\Pl F h/\Be F=true/\IsLay F l/\IsLay F m/\R (.int ((apart h (Aq F) l m / 4:Nat))) G
def Vi(N:Addr):SpX:=fun ds G R RX=>∃(F:List Sq)(d e:Dat),ds=[fl F,d,e]/\Good F/\Be F=false/\RX (.ref N) G
def Rq:SpD:=fun ds G R=>∃x:Sq,ds=[sq x]/\R (.lst ((Bd x).map tri)) G
def Si:SpD:=fun ds G R=>∃(F:List Sq)(l:Lay)(h:Lay->Sq->Int),ds=[fl F,lay l,.lst ((htL h F l).map pi)]/\Pl F h/\Be F=true/\IsLay F l/\R (.bl true) G
def RY:SpD:=fun ds G R=>∃(F:List Sq)(l:Lay)(k:Int),ds=[fl F,lay l,.int k]/\Good F/\Be F=false/\(k=0\/k=1)/\R (.lst [.bl true,.bl true]) G
def OC:SpD:=fun ds G R=>∃i:Int,ds=[.int i]/\R (.bl true) G
def Ys(i j k:Nat):Dat->Rho->Option Rho:=fun d ρ=>match d with
 |.tup [a,b,c]=>some (((ρ.set i (some a)).set j (some b)).set k (some c))
 |_=>none
section
variable {X:Cx}{pos:Pos}
theorem Rz(i j k:Nat){x y z:Str}{px py pz:Pos}{n:Nat}(hc:X.calm=true)(hN:X.N.Nodup)(hi:X.N[i]?=some x:=by rfl)(hj:X.N[j]?=some y:=by rfl)(hk:X.N[k]?=some z:=by rfl)(hx:Loc X.env.scope x:=by first|exact Or.inl rfl|exact Or.inr rfl)(hy:Loc X.env.scope y:=by first|exact Or.inl rfl|exact Or.inr rfl)(hz:Loc X.env.scope z:=by first|exact Or.inl rfl|exact Or.inr rfl)(jN:X.fn x=true\/X.env.scope.names.lookup x=some .local:=by first|exact .inl rfl|exact .inr rfl|assumption)(kX:X.fn y=true\/X.env.scope.names.lookup y=some .local:=by first|exact .inl rfl|exact .inr rfl|assumption)(pq:X.fn z=true\/X.env.scope.names.lookup z=some .local:=by first|exact .inl rfl|exact .inr rfl|assumption):PGD X (.Tuple [.Name x px,.Name y py,.Name z pz] n pos) (Ys i j k):=by
 intro AD s σ H v u ρ ρ' G d I r S q e;cases d<;>simp only[Ys,reduceCtorEq]at e;rename_i l
 match l,e,q with
 |[a,b,c],e,q=>
  simp only[Option.some.injEq]at e;subst e;rw[Rep]at q;obtain⟨p,vs,rfl,h1,h2⟩:=q;rw[RepL]at h2;obtain⟨v1,r1,rfl,q1,h2⟩:=h2;rw[RepL]at h2;obtain⟨v2,r2,rfl,q2,h2⟩:=h2;rw[RepL]at h2;obtain⟨v3,r3,rfl,q3,h2⟩:=h2;rw[RepL]at h2;subst h2;exact Uq (n:=3) hc (Fs (GO hN hi hx jN) (Fs (GO hN hj hy kX) (Fs (GO hN hk hz pq) Sb))) rfl rfl AD s σ H (.ref p) u (fun σ' H'=>Ext H G H' G/\Stt X H' σ' _ G) I r
   ⟨p,[v1,v2,v3],rfl,An AJ h1,rfl,v1,[v2,v3],rfl,v2,[v3],rfl,v3,[],rfl,rfl,Ext.refl,((S.set q1).set q2).set q3⟩
 |[],e,_=>simp at e
 |[_],e,_=>simp at e
 |[_,_],e,_=>simp at e
 |_::_::_::_::_,e,_=>simp at e
end
section
variable {X:Cx}{ρ:Rho}{G:Gs}{e a b elt AL Ac:Expr}{ifs:List Expr}{rest:List Stmt}{scope:Scope}{Au pos p1:Pos}{D:DE}{RX:Value->Gs->Prop}{Nc:List Str}{caps:List (Option Nat)}
theorem Ki(h:WEX X ρ G e (fun _ _=>False) RX)(hs:swapsWith e none pos.line X.env=pure false:=by rfl):PZ X ρ G (.Expr e pos::rest) D RX:=fun AD s σ H I S=>by
 refine wpAny_execs_cons ?_;exact wpAny_Expr_any (thn (h AD s σ H I S) fun v s1 ⟨x,H1,I1,r1,d,G1,_,_,_,q⟩=>q.elim) I.quiet hs
theorem WC(hm:X.mg "zip"=none)(h:WEX X ρ G a (fun _ _=>False) RX)(hg:Gl X "zip":=by rfl)(he:starEach [a,b] X.env=(false,eval a X.env)::starEach [b] X.env:=by rfl)(hpl:(backTo pos (starEach [b] X.env)).any (·.1)=false:=by rfl):WEX X ρ G (.Call (.Name "zip" p1) [a,b] [] pos) (fun _ _=>False) RX:=fun AD s σ H I S=>by
 refine wpAny_Call_Name_kw (Cv I hg hm (by decide +kernel:bootBuiltins "zip"=some (.type "zip")) ?_ (by decide) (by decide));refine PyProof.Rows.callWith_type1 (PyProof.Rows.spliced_more (thn (h AD s σ H I S) fun v s1 ⟨x,H1,I1,r1,d,G1,_,_,_,q⟩=>q.elim) he) he hpl
end
section
variable {X:Cx}{ρ:Rho}{G:Gs}{D:DE}{RX:Value->Gs->Prop}{rest st:List Stmt}{c:Expr}{pos:Pos}{p:Addr}{l:List Dat}
theorem WV(i:Nat)(hi:ρ[i]?=some (some (.fn p)))(hG:G p=some (.lst l))(q:WSs X (ρ.set i (some (.lst l))) (rel G p) st D):WSs X ρ G st D:=fun AD s σ H I S=>by
 obtain⟨E,O,R⟩:=HZ (X:=X) S.own hG;have S1:=S.ext E O;refine thn (q AD s σ H I ⟨fun j d hj=>?_,by rw[List.length_set];exact S.len,O⟩) fun _ _ z=>SP.trans E z;by_cases hJ:i=j
 ·subst hJ;have Ar:=(List.getElem?_eq_some_iff.mp hi).1;rw[List.getElem?_set_self Ar]at hj;cases hj;obtain⟨v,h1,h2⟩:=S.env i _ hi;rw[Rep]at h2;subst h2;exact⟨_,h1,R⟩
 ·rw[List.getElem?_set_ne hJ]at hj;exact S1.env j d hj
theorem W6{x y:List Stmt}{b:Bool}(hc:PXT X ρ G c b)(ht:b=true->PZ X ρ G x { D with nx:=fun _ _=>False } RX)(hf:b=false->PZ X ρ G y { D with nx:=fun _ _=>False } RX)(hx:X.xe=fun _ _=>False):PZ X ρ G (.If c x y pos::rest) D RX:=by
 intro AD s σ H I S;have Ro:=hc AD s σ H I S;rw[hx]at Ro;refine wpAny_execs_cons (wpAny_If (wpAny_mono Ro (fun b' s1 ⟨H1,I1,G1,e1,o1,q1,q2⟩=>?_) fun _ _ z=>z.elim));subst q1;subst q2;have go:∀z:List Stmt,PZ X ρ G1 z { D with nx:=fun _ _=>False } RX->wpAny (model X.prog X.w) X.A (execs z X.env) (fun f s'=>match f with|.next=>wpAny (model X.prog X.w) X.A (execs rest X.env) (SP X AD (Gk X H G1 D)) (FXP X AD σ H G1 RX) s'|f=>SP X AD (Gk X H G1 D) f s') (FXP X AD σ H G1 RX) s1:=by
  intro z hz;refine wpAny_mono (hz AD s1 σ H1 I1 (S.ext e1 o1)) (fun f s2 z=>?_) fun _ _ z=>FXP.trans e1 z;cases f with
  |next=>obtain⟨_,_,_,_,_,_,_,q⟩:=z;exact q.elim
  |ret v=>exact SP.trans (D:=D) e1 z
  |brk=>exact SP.trans (D:=D) e1 z
  |cont=>exact SP.trans (D:=D) e1 z
 cases b' with
 |true=>exact go _ (ht rfl)
 |false=>exact go _ (hf rfl)
end
section
variable {X:Cx}{ρ:Rho}{G:Gs}{D:DE}{RX:Value->Gs->Prop}{rest:List Stmt}{elt AL Ac:Expr}{ifs:List Expr}{scope:Scope}{Au pos pos':Pos}{Nc:List Str}{caps:List (Option Nat)}
theorem LY{x:Str}(Sc:CompSc X scope Nc caps)(h:WEX X ρ G Ac (fun _ _=>False) RX)(fo:swapsWith (.ListComp elt [⟨AL,Ac,ifs,0⟩] scope Au) (some (.Name x pos')) pos.line X.env=pure true:=by rfl)(OZ:∀x,foldedSetIterable Ac X.env x=pure x:=by intro _;rfl) :
  PZ X ρ G (.Assign [.Name x pos'] (.ListComp elt [⟨AL,Ac,ifs,0⟩] scope Au) pos::rest) D RX:=fun AD s σ H I S=>by
 refine wpAny_execs_cons ?_;rw[exec_Assign_Name_used _ _ _ _ fo];refine wpAny_bind (wpAny_standAt (wpAny_bind ?_));show wpAny _ X.A (do let _ <-comprehension (.ListComp elt [⟨AL,Ac,ifs,0⟩] scope Au) scope X.env _ (newList []) false (eval Ac X.env) (some (assign (.Name x pos') X.env))) _ _ s;refine wpAny_bind (wpAny_mono (wpAny_comprehension_free (use:=some (assign (.Name x pos') X.env)) (Q:=fun _ _=>False) rfl OZ (Cc fun x hx hf=>I.ok.has x.1 (Sc.free x hx hf)) Sc.kind Sc.names
  (thn (h AD s σ H I S) fun v s1 ⟨x,H1,I1,r1,d,G1,_,_,_,q⟩=>q.elim)) (fun _ s' hq=>hq.elim) fun _ _ e=>e)
end
section
variable {F:List Sq}{h:Lay->Sq->Int}{l m:Lay}
def dif(d:Dat):Dat:=match d with
 |.tup [.tup [_,.int a],.tup [_,.int b]]=>.int ((a-b).natAbs:Nat)
 |_=>.non
theorem K7(h:Lay->Sq->Int)(F:List Sq)(l m:Lay):Ec ((htL h F l).map pi) ((htL h F m).map pi)=(Aq F).map fun y=>.tup [pi (y,h l y-h l (F.headD (0,0))),pi (y,h m y-h m (F.headD (0,0)))]:=by unfold Ec htL;rw[List.map_map,List.map_map,List.zip_map',List.map_map];rfl
theorem Pl.zero'(P:Pl F h)(I:IsLay F l)(J:IsLay F m):h l (F.headD (0,0))=h m (F.headD (0,0)):=P.zero I J (CJ P.gd) fun x hx=>Ku P.gd hx
theorem V4(P:Pl F h)(I:IsLay F l)(J:IsLay F m):(Ec ((htL h F l).map pi) ((htL h F m).map pi)).map dif=((Aq F).map fun y=>(((h l y-h m y).natAbs:Nat):Int)).map .int:=by rw[K7,List.map_map,List.map_map];refine List.map_congr_left fun y _=>?_;have z:=P.zero' I J;show Dat.int ((((h l y-h l (F.headD (0,0)))-(h m y-h m (F.headD (0,0)))).natAbs:Nat):Int)=Dat.int (((h l y-h m y).natAbs:Nat):Int);rw[show(h l y-h l (F.headD (0,0)))-(h m y-h m (F.headD (0,0)))=h l y-h m y by lia]
theorem Uh(K:List Sq)(h:Lay->Sq->Int)(l m:Lay):(K.map fun y=>(((h l y-h m y).natAbs:Nat):Int)).sum=((apart h K l m:Nat):Int):=by
 unfold apart
 induction K with
 |nil=>rfl
 |cons a K ih=>
  rw[List.map_cons,List.map_cons,List.sum_cons,List.sum_cons,ih];lia
end
abbrev Mw:List Str:=["square","row","column"]
abbrev ER:List Str:=["square"]
theorem sM{N P:List Str}{sc:Scope}(a:sc.kind=.function:=by rfl)(b:sc.isCoroutine=false:=by rfl)(c:sc.isGenerator=false:=by rfl)(d:N.Nodup:=by decide +kernel)(e:N.take P.length=P:=by rfl)(f:∀x∈P,sc.names.lookup x=some .local\/sc.names.lookup x=some .cell:=by decide +kernel)(g:∀y∈sc.names,y.2≠.free:=by decide +kernel):FnScope N P sc:=⟨a,b,c,d,e,f,g⟩
section
variable {P:Program}{w:World}{K:PySem.W.Frag}{mg:Str->Option Value}{base:Heap}
theorem Bh{x qual:Str}{st:Stmt}{f:Addr}{fd:FuncData}{N ps:List Str}{k:Nat}{S:SpD}(F:Fun K x qual st f fd)(Sc:FnScope N ps (AF st))(hb:∀(Aw:Value)(A:Around)(outer:List Env)(s:Shared)(H:Hp)(E:XK)(ds:List Dat)(G:Gs)(R:Dat->Gs->Prop),Room k (A.deeper (envOfC qual (AF st) s.heap.objs.size f Aw))->S ds G R →
   WSs (Es CX0 P w K mg base N qual (AF st) f Aw A outer s H E).nox (EO N ds) G (BM st) { nx:=fun _ G'=>R .non G',rt:=R })(AY:∀ds G R,S ds G R->ds.length=ps.length:=by intro _ _ _ h;first|(obtain⟨_,rfl,_⟩:=h;rfl)|(obtain⟨_,_,rfl,_⟩:=h;rfl)|(obtain⟨_,_,_,rfl,_⟩:=h;rfl)|(obtain⟨_,_,_,_,rfl,_⟩:=h;rfl)|(obtain⟨_,_,_,_,_,rfl,_⟩:=h;rfl)):FnOk P w K mg base CX0 (k+1) f fd ps (Al K S):=lL F Sc AY hb
end
theorem Dq:FnScope Mw ER (AF HM):=sM
abbrev GQ:List Str:=["square","row","column"]
abbrev BL:List Str:=["square"]
theorem Br:FnScope GQ BL (AF C1):=sM
abbrev M0:List Str:=["square"]
abbrev Hm:List Str:=["square"]
theorem LO:FnScope M0 Hm (AF HF):=sM
abbrev Px:List Str:=["thing"]
abbrev Ew:List Str:=["thing"]
theorem Ni:FnScope Px Ew (AF Ir):=sM
abbrev T9:List Str:=["thing"]
abbrev IP:List Str:=["thing"]
theorem RD:FnScope T9 IP (AF Ln):=sM
abbrev Qb:List Str:=["thing"]
abbrev HE:List Str:=["thing"]
theorem Pm:FnScope Qb HE (AF K3):=sM
abbrev Iz:List Str:=["things"]
abbrev Et:List Str:=["things"]
theorem MY:FnScope Iz Et (AF DU):=sM
abbrev Gd:List Str:=["one","other"]
abbrev LX:List (Option Nat):=[none,none]
abbrev Tb:List Str:=["start","ground","around","found","waiting","square","other"]
abbrev GL:List Str:=["start","ground","around"]
theorem DK:FnScope Tb GL (AF IU):=sM
abbrev IS:List Str:=["floor"]
abbrev CZ:List Str:=["floor"]
theorem Hh:FnScope IS CZ (AF D2):=sM
abbrev DI:List Str:=["floor","rows","columns","bare","row","column"]
abbrev DH:List Str:=["floor"]
theorem BD:FnScope DI DH (AF Bt):=sM
abbrev D6:List Str:=["square"]
abbrev IL:List (Option Nat):=[none]
abbrev Dz:List Str:=["square"]
abbrev IT:List (Option Nat):=[none]
abbrev Qu:List Str:=["floor","bare"]
abbrev Gy:List Str:=["floor"]
theorem Il:FnScope Qu Gy (AF Jw):=sM
abbrev EU:List Str:=["floor","one","other"]
abbrev BW:List Str:=["floor","one","other"]
theorem EA:FnScope EU BW (AF BX):=sM
abbrev HN:List Str:=["floor","square","other"]
abbrev CH:List Str:=["floor"]
theorem CA:FnScope HN CH (AF DW):=sM
abbrev Qr:List Str:=["floor"]
abbrev ES:List Str:=["floor"]
theorem N3:FnScope Qr ES (AF KR):=sM
abbrev Ek:List Str:=["floor"]
abbrev B7:List Str:=["floor"]
theorem IQ:FnScope Ek B7 (AF Cy):=sM
abbrev DZ:List Str:=["thing"]
abbrev HP:List (Option Nat):=[none]
abbrev Qo:List Str:=["square"]
abbrev HD:List Str:=["square"]
theorem PJ:FnScope Qo HD (AF LD):=sM
abbrev Nl:List Str:=["corner","row","column","upper_left","upper_right","lower_left","lower_right"]
abbrev Fl:List Str:=["corner"]
theorem BU:FnScope Nl Fl (AF Iy):=sM
abbrev Nw:List Str:=["floor","laying","left","right"]
abbrev FT:List Str:=["floor","laying","left","right"]
theorem Nj:FnScope Nw FT (AF De):=sM
abbrev M1:List Str:=["floor","laying","corner","steps","further","left","right"]
abbrev EG:List Str:=["floor","laying","corner"]
theorem Dm:FnScope M1 EG (AF Hd):=sM
abbrev Lr:List Str:=["floor","laying","waiting","found","corner","further","rise"]
abbrev CO:List Str:=["floor","laying"]
theorem CV:FnScope Lr CO (AF C8):=sM
abbrev Ik:List Str:=["corner"]
abbrev Pa:List (Option Nat):=[none]
abbrev DD:List Str:=["floor","one","other","apart"]
abbrev Bm:List Str:=["floor","one","other"]
theorem Cs:FnScope DD Bm (AF Bj):=sM
abbrev CY:List Str:=["under","over"]
abbrev Du:List (Option Nat):=[none,none]
abbrev Qv:List Str:=["_law_script","_law_k"]
abbrev C9:List Str:=["_law_script","_law_k"]
theorem Oy:FnScope Qv C9 (AF KA):=sM
abbrev Tz:List Str:=["_law_cell_here","_law_prime","_law_many"]
abbrev Fv:List Str:=["_law_cell_here","_law_prime","_law_many"]
theorem Q5:FnScope Tz Fv (AF L6):=sM
abbrev Pu:List Str:=["_law_found"]
abbrev FV:List Str:=["_law_found"]
theorem M4:FnScope Pu FV (AF Iu):=sM
abbrev E7:List Str:=["_law_script","_law_at","_law_cell_here","_law_rows","_law_wide","_law_down","_law_right","_law_some","_law_r","_law_gone","_law_k","_law_seed","_law_one","_law_left"]
abbrev Ey:List Str:=["_law_script","_law_at"]
theorem Aa:FnScope E7 Ey (AF Cm):=sM
abbrev GY:List Str:=["_law_c","_law_down","_law_r","_law_right"]
abbrev LN:List (Option Nat):=[none,some 5,some 8,some 6]
abbrev GZ:List Str:=["_law_one","_law_gone"]
abbrev LS:List (Option Nat):=[none,some 9]
abbrev Kx:List Str:=["_law_floor_here","_law_square","_law_r","_law_c"]
abbrev EX:List Str:=["_law_floor_here","_law_square"]
theorem Ip:FnScope Kx EX (AF EH):=sM
abbrev Hg:List Str:=["_law_one","_law_floor_here"]
abbrev Mh:List (Option Nat):=[none,some 0]
abbrev E6:List Str:=["_law_floor_here","_law_known","_law_found","_law_last","_law_other","_law_left"]
abbrev Bk:List Str:=["_law_floor_here","_law_known"]
theorem Bv:FnScope E6 Bk (AF Cq):=sM
abbrev Gh:List Str:=["_law_one","_law_last","_law_other"]
abbrev LQ:List (Option Nat):=[none,some 3,some 4]
abbrev Gg:List Str:=["_law_row","_law_last","_law_other"]
abbrev LM:List (Option Nat):=[none,some 3,some 4]
abbrev Lh:List Str:=["_law_floor_here"]
abbrev II:List Str:=["_law_floor_here"]
theorem Qa:FnScope Lh II (AF GJ):=sM
abbrev Ij:List Str:=["_law_row"]
abbrev Ny:List (Option Nat):=[none]
abbrev Im:List Str:=["_law_floor_here","_law_met","_law_at"]
abbrev Fn:List Str:=["_law_floor_here"]
theorem CM:FnScope Im Fn (AF DX):=sM
abbrev Ga:List Str:=["_law_one","_law_met"]
abbrev La:List (Option Nat):=[none,some 1]
abbrev LJ:List Str:=["_law_floor_here","_law_met","_law_todo","_law_r","_law_c","_law_k","_law_one"]
abbrev Dl:List Str:=["_law_floor_here"]
theorem BO:FnScope LJ Dl (AF Di):=sM
abbrev Ko:List Str:=["_law_floor_here","_law_r","_law_c","_law_step"]
abbrev DM:List Str:=["_law_floor_here"]
theorem Cz:FnScope Ko DM (AF DB):=sM
abbrev Ow:List Str:=["_law_floor_here"]
abbrev E8:List Str:=["_law_floor_here"]
theorem MP:FnScope Ow E8 (AF JG):=sM
abbrev Q0:List Str:=["_law_floor_here","_law_laying","_law_way","e"]
abbrev Gp:List Str:=["_law_floor_here","_law_laying","_law_way"]
theorem JJ:FnScope Q0 Gp (AF Jy):=sM
abbrev Oa:List Str:=["_law_square","_law_r","_law_c","_law_half"]
abbrev E9:List Str:=["_law_square"]
theorem ET:FnScope Oa E9 (AF JH):=sM
abbrev Jv:List Str:=["_law_floor_here","_law_laying","_law_told_here","_law_place","_law_corners","_law_square","_law_one","_law_two","_law_other"]
abbrev Gw:List Str:=["_law_floor_here","_law_laying","_law_told_here"]
theorem Cp:FnScope Jv Gw (AF DC):=sM
abbrev Hx:List Str:=["_law_pair"]
abbrev NN:List (Option Nat):=[none]
abbrev VZ:List Str:=["_law_script","_law_floor_here","_law_every_here","_law_one","_law_other","_law_mine","_law_theirs","_law_due"]
abbrev aZ:List Str:=["_law_script"]
theorem FQ:FnScope VZ aZ (AF PW):=sM
abbrev Sg:List Str:=["_law_pair"]
abbrev Xv:List (Option Nat):=[none]
abbrev Ru:List Str:=["_law_a","_law_b"]
abbrev Zg:List (Option Nat):=[none,none]
end TF
namespace TF
open PySem PySem.Spec L2
open PyProof.Rows hiding St RelV
def kvI(v:Sq->Int)(y:Sq):Dat×Dat:=(sq y,.int (v y))
theorem EC(v:Sq->Int)(L:List Sq)(y:Sq):A1 (L.map (kvI v)) (sq y)=if y∈L then some (.int (v y))else none:=N2 L (fun y=>.int (v y)) y
theorem Y5{v:Sq->Int}{L:List Sq}{y:Sq}(h:y∉L):Hq (L.map (kvI v)) (sq y) (.int (v y))=(L++[y]).map (kvI v):=by
 rw[OF,List.map_append]
 ·rfl
 ·rw[EC,if_neg h]
theorem V5{F:List Sq}(gd:Good F):QF (F.map sq) none (some 1)=[sq (F.headD (0,0))]:=by
 cases F with
 |nil=>exact absurd rfl gd.ne
 |cons a r=>simp[QF,HT.sIx]
section
variable {P:Program}{w:World}{K:PySem.W.Frag}{mg:Str->Option Value}{base:Heap}{f:Addr}{fd:FuncData}
theorem Q7(F:Fun K "heights" "heights" C8 f fd)(ml:mg "len"=none)(jt:mg "list"=none)(md:mg "dict"=none)(kU:mg "sorted"=none)(FH:Df P w K mg base "holds_squares" B7 3 Mf)(FP:Df P w K mg base "is_plain" ES 5 (spF fun F=>.bl (Be F)))(FS:Df P w K mg base "steps_from" EG 2 Ov) :
  FnOk P w K mg base CX0 6 f fd CO (Al K bS):=by
 refine Bh (k:=5) F CV (fun Aw A outer s H E ds G R hr h=>?_);obtain⟨q,l,h,rfl,pl,hp,I,hR⟩:=h;have gd:=pl.gd;have hang:=Mn gd hp;have mY:=gd.len;have hu:(A.deeper (envOfC "heights" (AF C8) s.heap.objs.size f Aw)).units+20<cLine:=by have:=hr.units;lia
 have Sn:(A.deeper (envOfC "heights" (AF C8) s.heap.objs.size f Aw)).units+9<cLine:=by lia
 obtain⟨x0,Yc⟩:∃x0,x0=q.headD (0,0):=⟨_,rfl⟩;obtain⟨v,hv⟩:∃v:Sq->Int,v=fun y=>h l y-h l x0:=⟨_,rfl⟩;have v0:v x0=0:=by rw[hv];simp
 have vs:∀{c:Sq}{p:Sq×Int},p∈Bx q l c->v p.1=v c+p.2:=fun hp=>by
  have:=pl.side I hp
  rw[hv];simp only;lia
 have c0:x0∈Aq q:=(Bu gd).mpr ⟨_,by rw[Yc];exact CJ gd,AU.mpr (.inl rfl)⟩;refine BH (p:=false) (PXT.cast (Mc (CL (B6 (Ai FH (hr.mono (by lia)) (AB (AA 0 rfl) AE) ⟨q,rfl,by lia,gd.up,rfl,rfl⟩))) (fun _=>JW (CL (B6 (Ai FP hr (AB (AA 0 rfl) AE) ⟨q,rfl,gd,rfl,rfl⟩))))).t (by rw[hp];rfl)) (fun h=>absurd h (by decide)) (fun _=>AK ?_);refine BP 2 CV.nd (XT (l:=[sq x0]) jt (PX.cast (Le (ol:=none) (oh:=some 1) (AA 0 rfl) trivial AG) (by rw[V5 gd,Yc])) (fun p2 JU=>?_));refine BP 3 CV.nd (Nn (L:=[(x0,0)]) md hu rfl (PX.cast (Uo (Nc:=Ik) (caps:=Pa) (f:=Ck 0) (l:=[sq x0]) (fun d=>.tup [d,.int 0])
  (Bp (psc:=AF C8) (PN:=Lr) (by decide +kernel) rfl rfl) rfl (AA 2 rfl) AI
  (fun C s' H' fp=>Af 0 (show Ik.Nodup by decide +kernel)) (BR rfl) (by exact sz1 (show 1<=5000 by decide)) (fun C s' H' fp G' d hd=>⟨_,rfl,AM (AB (AA 0 rfl) (AB AG AE))⟩)) rfl) (by simp) (fun p1 TU=>?_))
 have Bq:p2≠p1:=by rintro rfl;rw[AI]at TU;cases TU
 have jo:G p1=none:=by rw[Ak (Ne.symm Bq)]at TU;exact TU
 have few:∀L:List Sq,L.Nodup->(∀x∈L,x∈Aq q)->L.length<=81:=fun L h1 h2=>Nat.le_trans (BE h1 h2) (HI q);refine GK (fun m ρ' G'=>∃(L W:List Sq)(y4 y5 y6:Option Dat),ρ'=[some (fl q),some (lay l),some (.fn p2),some (.fn p1),y4,y5,y6]/\G'=put (put G p2 (.lst (W.map sq))) p1 (.dct (L.map (kvI v))) ∧
   L.Nodup/\x0∈L/\(∀x∈L,x∈Aq q)/\(∀x∈W,x∈L)/\(∀x∈L,x∈W\/∀p∈Bx q l x,p.1∈L)/\m=2*(81-L.length)+W.length/\m<=200) PassesOwn.never
  (m0:=2*(81-1)+1) ⟨[x0],[x0],none,none,none,rfl,by rw[show kvI v=fun y=>(sq y,Dat.int (v y))from rfl];simp only[List.map_cons,List.map_nil,v0],by simp,by simp,fun x hx=>by rw[List.mem_singleton.mp hx];exact c0,fun x hx=>hx,fun x hx=>.inl hx,rfl,by lia⟩ ?_
 rintro m ρ' G' ⟨L,W,y4,y5,y6,rfl,rfl,nd,hs,hc,hW,GW,hm,Xf⟩;have Ep:put (put G p2 (.lst (W.map sq))) p1 (.dct (L.map (kvI v))) p2=some (.lst (W.map sq)):=by rw[Ak Bq,AI]
 refine DO (BK (Qf (CG (n:=W.length) rfl ml (AA 2 rfl) (by show(match put (put G p2 (.lst (W.map sq))) p1 (.dct (L.map (kvI v))) p2 with|some (.lst l)=>some l.length|_=>none)=_;rw[Ep];simp)) AG)) ⟨fun hp=>?_,fun hp=>?_⟩
 ·have Gv:0<W.length:=by have:=of_decide_eq_true hp;lia
  obtain⟨W0,x,rfl⟩:∃W0 x,W=W0++[x]:=⟨W.dropLast,W.getLast (List.ne_nil_of_length_pos Gv),(List.dropLast_concat_getLast _).symm⟩;rw[List.length_append,List.length_singleton]at hm;refine BP 4 CV.nd (Qj (d:=sq x) (l:=W0.map sq) (AA 2 rfl) (by rw[Ep,List.map_append];rfl) ?_);have eG:∀(W1:List Sq),put (put (put G p2 (.lst (W1.map sq))) p1 (.dct (L.map (kvI v)))) p2 (.lst (W0.map sq))=put (put G p2 (.lst (W0.map sq))) p1 (.dct (L.map (kvI v))):=fun W1=>by
   rw[Og (Ne.symm Bq),A3]
  rw[eG];have hx:x∈L:=hW x (by simp);have AY:=few L nd hc;refine BV (l:=(Bx q l x).map pi) (f:=Ej 5 6) (fun i ρ' G'=>∃(L W:List Sq)(y5 y6:Option Dat),ρ'=[some (fl q),some (lay l),some (.fn p2),some (.fn p1),some (sq x),y5,y6]/\G'=put (put G p2 (.lst (W.map sq))) p1 (.dct (L.map (kvI v))) ∧
    L.Nodup/\x0∈L/\(∀x∈L,x∈Aq q)/\(∀x∈W,x∈L)/\x∈L/\(∀z∈L,z∈W\/(∀p∈Bx q l z,p.1∈L)\/z=x)/\(∀p∈(Bx q l x).take i,p.1∈L)/\2*(81-L.length)+W.length+1<=m) PassesOwn.never rfl
   (B5 (Ai FS (hr.mono (by lia)) (AB (AA 0 rfl) (AB (AA 1 rfl) (AB (AA 4 rfl) AE))) ⟨q,l,x,rfl,_,rfl,rfl,L,W0,y5,y6,rfl,rfl,nd,hs,hc,fun z hz=>hW z (by simp[hz]),hx,?_,by simp,by lia⟩)) (Cr 5 6 rfl CV.nd) ?_ ?_
  ·intro z hz;rcases GW z hz with h|h
   ·rcases List.mem_append.mp h with h|h
    ·exact .inl h
    ·exact .inr (.inr (List.mem_singleton.mp h))
   ·exact .inr (.inl h)
  ·clear AY hx GW hW hc hs nd hm eG Ep;rintro i dd ρ' G' hd ⟨L,W,y5,y6,rfl,rfl,nd,hs,hc,hW,hx,GW,hi,hm⟩;rw[List.getElem?_map]at hd;obtain⟨⟨y,e⟩,hy,rfl⟩:=Option.map_eq_some_iff.mp hd;have Z5:(y,e)∈Bx q l x:=List.mem_of_getElem? hy;have et:(Bx q l x).take (i+1)=(Bx q l x).take i++[(y,e)]:=by rw[List.take_add_one,hy];rfl
   have Ei:put (put G p2 (.lst (W.map sq))) p1 (.dct (L.map (kvI v))) p1=some (.dct (L.map (kvI v))):=AI;have AY:=few L nd hc;refine⟨_,rfl,?_⟩;refine BH (BK (Ea Sn (AA 5 rfl) (AA 3 rfl) Ei (CC y) ⟨_,rfl⟩)) (fun hp=>?_) (fun hp=>AK (AK ?_))
   ·have To:y∉L:=fun hm=>by rw[EC,if_pos hm]at hp;simp at hp
    have mW:y∈Aq q:=(Bu gd).mpr (Ss Z5);refine Ht (d:=.int (v y)) Sn (PX.cast (AX (JR (d:=.int (v x)) Sn (AA 3 rfl) (AA 4 rfl) Ei (CC x) ⟨_,rfl⟩ (by rw[EC,if_pos hx])) (AA 6 rfl)) (by rw[vs Z5])) (AA 3 rfl) (AA 5 rfl) Ei (CC y) ⟨_,rfl⟩ (by rw[List.length_map];exact sz1 (by lia)) ?_;rw[Y5 To,A3];refine Bs (d:=sq y) (l:=W.map sq) (AA 2 rfl) (AA 5 rfl) (by rw[Ak Bq,AI]) (by rw[List.length_map];exact sz1 (by lia)) (AK (AK ?_));have Tx:L.length+1<=81:=by
     have:=few (L++[y]) (by rw[List.nodup_append];exact⟨nd,by simp,fun a ha b hb e=>by rw[List.mem_singleton.mp hb]at e;subst e;exact To ha⟩) fun z hz=>by
      rcases List.mem_append.mp hz with h|h
      ·exact hc z h
      ·rw[List.mem_singleton.mp h];exact mW
     simpa using this
    refine⟨L++[y],W++[y],_,_,rfl,?_,?_,by simp[hs],?_,?_,by simp[hx],?_,?_,?_⟩
    ·rw[Og (Ne.symm Bq),A3];simp only[List.map_append,List.map_cons,List.map_nil]
    ·rw[List.nodup_append];exact⟨nd,by simp,fun a ha b hb e=>by rw[List.mem_singleton.mp hb]at e;subst e;exact To ha⟩
    ·intro z hz;rcases List.mem_append.mp hz with h|h
     ·exact hc z h
     ·rw[List.mem_singleton.mp h];exact mW
    ·intro z hz;rcases List.mem_append.mp hz with h|h
     ·exact List.mem_append_left _ (hW z h)
     ·exact List.mem_append_right _ h
    ·intro z hz;rcases List.mem_append.mp hz with h|h
     ·rcases GW z h with h|h|h
      ·exact .inl (List.mem_append_left _ h)
      ·exact .inr (.inl fun p hp=>List.mem_append_left _ (h p hp))
      ·exact .inr (.inr h)
     ·exact .inl (List.mem_append_right _ h)
    ·intro p hp;rw[et]at hp;rcases List.mem_append.mp hp with h|h
     ·exact List.mem_append_left _ (hi p h)
     ·rw[List.mem_singleton.mp h];simp
    ·simp only[List.length_append,List.length_singleton];lia
   ·have To:y∈L:=by
     refine Classical.byContradiction fun hn=>?_;rw[EC,if_neg hn]at hp;simp at hp
    refine⟨L,W,_,_,rfl,rfl,nd,hs,hc,hW,hx,GW,fun p hp=>?_,hm⟩;rw[et]at hp;rcases List.mem_append.mp hp with h|h
    ·exact hi p h
    ·rw[List.mem_singleton.mp h];exact To
  ·clear AY hx GW hW hc hs nd eG Ep;rintro ρ' G' ⟨L,W,y5,y6,rfl,rfl,nd,hs,hc,hW,hx,GW,hi,jW⟩;rw[List.length_map,List.take_length]at hi;refine AK ⟨2*(81-L.length)+W.length,by lia,L,W,_,_,_,rfl,rfl,nd,hs,hc,hW,fun z hz=>?_,rfl,by lia⟩;rcases GW z hz with h|h|h
   ·exact .inl h
   ·exact .inr h
   ·subst h;exact .inr hi
 ·have dz:W=[]:=by
   cases W with
   |nil=>rfl
   |cons a r=>simp at hp
  subst dz;have all:=Sv gd.nodup I (·∈L) (fun c Ro p Se=>by
   rcases GW c Ro with h|h
   ·cases h
   ·exact h p Se) (s:=x0) (by rw[Yc];exact CJ gd) hs (by rw[Yc];exact hang)
  have eL:L.map (kvI v)=(L.map fun y=>(y,v y)).map fun q=>(sq q.1,Dat.int q.2):=by rw[List.map_map];rfl
  refine Cf (DG (DG (PX.we (K1 (L:=L.map fun y=>(y,v y)) kU hu rfl (AA 3 rfl) (by rw[AI,eL])) ⟨p1,p2,?_⟩)));rw[BG (by rw[Ak (Ne.symm Bq)];exact jo),BG JU];rw[QS gd v (L:=L.map fun y=>(y,v y)) (by rw[List.map_map];simpa[Function.comp_def]using nd) (fun p Se=>by obtain⟨y,_,rfl⟩:=List.mem_map.mp Se;rfl) fun y=>by
   rw[List.map_map];simp only[Function.comp_def,List.map_id'];exact⟨hc y,fun hy=>by obtain⟨z,hz,qS⟩:=(Bu gd).mp hy;exact all z hz y qS⟩]
  unfold htL at hR;rw[<-Yc]at hR;rw[hv];exact hR
end
end TF
namespace TF
open PySem PySem.Spec L2
open PyProof.Rows hiding St RelV
theorem YV(l:List Sq):eqD (.lst (l.map sq)) (.lst (l.map sq))=true:=by
 show eqL _ _=true
 induction l with
 |nil=>rfl
 |cons a l ih=>
  rw[List.map_cons];show(eqD (sq a) (sq a)&&eqL _ _)=true;rw[ih,Bool.and_true]
  have:=BQ [a] a
  simpa using this
theorem Jx(l:List Sq):AH 9 (.lst (l.map sq))=true:=As l
def jD(d:Dat):Dat:=match d with
 |.tup (a::_)=>a
 |_=>.non
theorem Nx{F:List Sq}{i:Nat}{x:Sq}(h:F[i]?=some x):B2 (F.take (i+1))=B2 (F.take i)++(Bd x).map (·.1):=by unfold B2;rw[List.take_add_one,h,List.flatMap_append];simp
theorem Qk(F:List Sq):(B2 F).length=4*F.length:=by
 unfold B2
 induction F with
 |nil=>rfl
 |cons a F ih=>rw[List.flatMap_cons,List.length_append,ih];simp[Bd];lia
section
variable {P:Program}{w:World}{K:PySem.W.Frag}{mg:Str->Option Value}{base:Heap}{f:Addr}{fd:FuncData}
theorem Ou(F:Fun K "_law_good" "_law_good" DC f fd)(md:mg "dict"=none)(ms:mg "sum"=none)(kU:mg "sorted"=none)(pK:mg "set"=none)(FS:Df P w K mg base "_law_sides" E9 1 Rq):FnOk P w K mg base CX0 2 f fd Gw (Al K Si):=by
 refine Bh (k:=1) F Cp (fun Aw A outer s H E ds G R hr h=>?_);obtain⟨q,l,h,rfl,pl,hp,I,hR⟩:=h;have gd:=pl.gd;have mY:=gd.len;have hang:=Mn gd hp;have hu:(A.deeper (envOfC "_law_good" (AF DC) s.heap.objs.size f Aw)).units+20<cLine:=by have:=hr.units;lia
 have Sn:(A.deeper (envOfC "_law_good" (AF DC) s.heap.objs.size f Aw)).units+9<cLine:=by lia
 obtain⟨v,hv⟩:∃v:Sq->Int,v=fun y=>h l y-h l (q.headD (0,0)):=⟨_,rfl⟩;have eh:htL h q l=(Aq q).map fun y=>(y,v y):=by rw[hv];rfl
 have v0:v (q.headD (0,0))=0:=by rw[hv];simp
 have vg:∀{x:Sq}{t:Sq×Sq×Sq},x∈q->t∈Bd x->(x,t.2.2)∉l->(t.2.2,x)∉l->v t.2.1-v t.1=sgn x:=fun hx ht n1 n2=>by
  have:=pl.good I hx ht n1 n2
  rw[hv];simp only;lia
 rw[eh];have cl:=HI q;refine BP 3 Cp.nd (Nn (L:=(Aq q).map fun y=>(y,v y)) md hu rfl (AA 2 rfl) (by rw[List.map_map];simpa[Function.comp_def]using CD (DT q)) (fun p1 TU=>?_));rw[show((Aq q).map fun y=>(y,v y)).map (fun q=>(sq q.1,Dat.int q.2))=(Aq q).map (kvI v) by rw[List.map_map];rfl];refine Dy 4 Cp.nd AE (fun p2 JU=>?_);have Bq:p1≠p2:=by rintro rfl;rw[AI]at JU;cases JU
 have YX:G p2=none:=by rw[Ak (Ne.symm Bq)]at JU;exact JU
 obtain⟨GG,dM⟩:∃GG:List Sq->Gs,GG=fun L=>put (put G p1 (.dct ((Aq q).map (kvI v)))) p2 (.lst (L.map sq)):=⟨_,rfl⟩;have g0:put (put G p1 (.dct ((Aq q).map (kvI v)))) p2 (.lst [])=GG []:=by rw[dM];rfl
 have g1:∀L,GG L p1=some (.dct ((Aq q).map (kvI v))):=fun L=>by rw[dM];simp only;rw[Ak Bq,AI]
 have g2:∀L,GG L p2=some (.lst (L.map sq)):=fun L=>by rw[dM];simp only;rw[AI]
 have g3:∀L L',put (GG L) p2 (.lst (L'.map sq))=GG L':=fun L L'=>by rw[dM];simp only;rw[A3]
 have gT:∀L,rel (rel (GG L) p2) p1=G:=fun L=>by rw[dM];simp only;rw[BG JU,BG TU]
 rw[g0];clear dM;refine BV (l:=q.map sq) (f:=Ck 5) (fun i ρ' G'=>(∃x5 x6 x7 x8,ρ'=[some (fl q),some (lay l),some (.lst (((Aq q).map fun y=>(y,v y)).map pi)),some (.fn p1),some (.fn p2),x5,x6,x7,x8])/\G'=GG (B2 (q.take i))) PassesOwn.never rfl
  (FY (AA 0 rfl) ⟨rfl,⟨none,none,none,none,rfl⟩,by simp[B2]⟩) (Af 5 Cp.nd) ?_ ?_
 ·rintro i dd ρ' G' hd ⟨⟨x5,x6,x7,x8,rfl⟩,rfl⟩;rw[List.getElem?_map]at hd;obtain⟨x,hx,rfl⟩:=Option.map_eq_some_iff.mp hd;have lA:x∈q:=List.mem_of_getElem? hx;have dJ:(B2 (q.take i)).length<=96:=by rw[Qk,List.length_take];lia
  refine⟨_,rfl,?_⟩;refine BV (l:=(Bd x).map tri) (f:=Ys 6 7 8) (fun j ρ' G'=>(∃x6 x7 x8,ρ'=[some (fl q),some (lay l),some (.lst (((Aq q).map fun y=>(y,v y)).map pi)),some (.fn p1),some (.fn p2),some (sq x),x6,x7,x8])/\G'=GG (B2 (q.take i)++((Bd x).take j).map (·.1))) PassesOwn.never rfl
   (B5 (Ai FS hr (AB (AA 5 rfl) AE) ⟨x,rfl,_,rfl,rfl,⟨_,_,_,rfl⟩,by simp⟩)) (Rz 6 7 8 rfl Cp.nd) ?_ ?_
  ·rintro j dd ρ' G' hd ⟨⟨x6,x7,x8,rfl⟩,rfl⟩;rw[List.getElem?_map]at hd;obtain⟨t,ht,rfl⟩:=Option.map_eq_some_iff.mp hd;have jB:t∈Bd x:=List.mem_of_getElem? ht;have hj:j<4:=(List.getElem?_eq_some_iff.mp ht).1;have et:(Bd x).take (j+1)=(Bd x).take j++[t]:=by rw[List.take_add_one,ht];rfl
   have c1:t.1∈Aq q:=(Bu gd).mpr ⟨x,lA,(L4 jB).1⟩;have c2:t.2.1∈Aq q:=(Bu gd).mpr ⟨x,lA,(L4 jB).2⟩;refine⟨_,rfl,?_⟩;refine Bs (d:=sq t.1) (l:=(B2 (q.take i)++((Bd x).take j).map (·.1)).map sq) (AA 4 rfl) (AA 6 rfl) (g2 _) (by rw[List.length_map,List.length_append,List.length_map,List.length_take];exact sz1 (by lia)) ?_;rw[show(B2 (q.take i)++((Bd x).take j).map (·.1)).map sq++[sq t.1]=(B2 (q.take i)++((Bd x).take (j+1)).map (·.1)).map sq by rw[et];simp,g3];refine BH (C6 (BK (A0 (d1:=Ay (x,t.2.2)) Sn (AM (AB (AA 5 rfl) (AB (AA 8 rfl) AE))) (AA 1 rfl) (.inl rfl) (Cj _) (EZ l))) fun _=>D8 (BK (A0 (d1:=Ay (t.2.2,x)) Sn (AM (AB (AA 8 rfl) (AB (AA 5 rfl) AE))) (AA 1 rfl) (.inl rfl) (Cj _) (EZ l)))).t (fun hq=>?_) (fun _=>AK (AK ⟨⟨_,_,_,rfl⟩,rfl⟩));rw[IW,IW]at hq;simp only[Bool.and_eq_true,Bool.not_eq_true',List.contains_eq_mem,decide_eq_false_iff_not]at hq;have key:=vg lA jB hq.1 hq.2;refine BH (p:=false) (PXT.cast (BK (Xs (Az (JR (d:=.int (v t.2.1)) Sn (AA 3 rfl) (AA 7 rfl) (g1 _) (CC _) ⟨_,rfl⟩ (by rw[EC,if_pos c2])) (JR (d:=.int (v t.1)) Sn (AA 3 rfl) (AA 6 rfl) (g1 _) (CC _) ⟨_,rfl⟩ (by rw[EC,if_pos c1]))) (Az AG (KY AG (HA (V1 (p:=x) rfl ms (AA 5 rfl)) AG (by decide)) (.inl (by decide)))))) ?_) (fun hc=>absurd hc (by decide)) (fun _=>AK (AK (AK ⟨⟨_,_,_,rfl⟩,rfl⟩)));rw[key,<-Yd x];simp
  ·rintro ρ' G' ⟨⟨x6,x7,x8,rfl⟩,rfl⟩;refine AK ⟨⟨_,_,_,_,rfl⟩,?_⟩;rw[List.length_map,List.take_of_length_le (Nat.le_refl _),Nx hx]
 ·rintro ρ' G' ⟨⟨x5,x6,x7,x8,rfl⟩,rfl⟩;rw[List.length_map,List.take_length];refine WV 4 rfl (g2 _) ?_;obtain⟨t0,ec⟩:=TH gd;refine Cf (DG (PX.we (B8 (q:=true) (PX.cast (d':=.bl true) (GV (QC Sn (d1:=.lst ((Aq q).map sq)) (d2:=.lst ((Aq q).map sq)) (PX.cast (Er (Nc:=Hx) (caps:=NN) (l:=((Aq q).map fun y=>(y,v y)).map pi) (f:=Ck 0) jD
   (Bp (psc:=AF DC) (PN:=Jv) (by decide +kernel) rfl rfl) rfl (Je (AA 2 rfl) ⟨rfl,rfl⟩) (fun C s' H' fp=>Af 0 (show Hx.Nodup by decide +kernel)) (BR rfl) (by rw[List.length_map,List.length_map];lia) ?_) ?_)
   (PX.cast (M5 (U:=Aq q) (l:=B2 q) kU pK hu rfl (AA 4 rfl) (fun y hy=>(Bu gd).mpr (J2.mp hy)) (uo:=Vv gd hang)) (by rw[Oh gd])) (Jx _) (Jx _))) (by rw[YV])) fun _=>Ds (PX.cast (d':=.bl true) (GV (Cb (Ao (d:=.int 0) (Gu (d:=pi (q.headD (0,0),0)) (AA 2 rfl) AG ?_) AG rfl) AG)) rfl)) ⟨p1,?_⟩))
  ·intro C s' H' fp G2 d hd kn;rw[List.map_map]at hd;obtain⟨y,_,rfl⟩:=List.mem_map.mp hd;exact⟨_,rfl,Ao (AA 0 rfl) AG rfl⟩
  ·rw[List.map_map,List.map_map];rfl
  ·rw[ec];simp only[List.map_cons,v0];show atI _ ((0:Nat):Int)=_;exact EV rfl
  ·rw[gT];exact hR
theorem cB(F:Fun K "law" "law" PW f fd)(mi:mg "isinstance"=none)(jt:mg "list"=none)(ml:mg "len"=none)(ms:mg "sum"=none)(mz:mg "zip"=none)(ma:mg "abs"=none)(FF:Df P w K mg base "_law_floor" Ey 2 SY)(FC:Df P w K mg base "_law_cell" C9 1 MR)(FA:Df P w K mg base "_law_all" II 15 Zx)(qm:Df P w K mg base "_law_plain" E8 3 (spF fun F=>.bl (Be F)))(lU:Df P w K mg base "_law_told" Gp 8 RY)(qh:Df P w K mg base "_law_whole" FV 1 OC)(FG:Df P w K mg base "_law_good" Gw 2 Si)(FH:Df P w K mg base "heights" CO 6 bS)(FW:Df P w K mg base "fewest_turns" Bm 7 Z0):FnOk P w K mg base CX0 16 f fd aZ (Al K Na):=by
 refine Bh (k:=15) F FQ (fun Aw A outer s H E ds G R hr h=>?_);obtain⟨ns,rfl,hR⟩:=h;have hu:(A.deeper (envOfC "law" (AF PW) s.heap.objs.size f Aw)).units+9<cLine:=by have:=hr.units;lia
 refine BP 1 FQ.nd (Ai FF (hr.mono (by lia)) (AB (AA 0 rfl) (AB AG AE)) ⟨ns,3,rfl,fun q gd=>?_⟩);refine BP 2 FQ.nd (Ai FA hr (AB (AA 1 rfl) AE) ⟨q,rfl,gd.ne,gd.up,gd.len,?_⟩);refine BH (p:=(DR q).isEmpty) ?_ (fun hp=>AS DV hR) (fun hp=>AK ?_)
 ·refine PXT.cast (CL (GN (p:=!(DR q).isEmpty) (AA 2 rfl) ?_)) (Bool.not_not _);show some (!((DR q).map lay).isEmpty)=_;rw[List.isEmpty_map]
 have Bq:DR q≠[]:=by rintro h;rw[h]at hp;cases hp
 have Gv:0<(DR q).length:=List.length_pos_iff.mpr Bq;have Z6:∀c:Int,∃l,IsLay q l/\atI ((DR q).map lay) (c%((DR q).length:Int))=some (lay l):=by
  intro c;have h1:=Int.emod_nonneg c (b:=((DR q).length:Int)) (by lia);have h2:=Int.emod_lt_of_pos c (b:=((DR q).length:Int)) (by lia);have Ar:(c%((DR q).length:Int)).toNat<(DR q).length:=by lia
  obtain⟨l,hl⟩:∃l,(DR q)[(c%((DR q).length:Int)).toNat]?=some l:=⟨_,List.getElem?_eq_getElem Ar⟩;refine⟨l,(Y9 gd.up).mp (List.mem_of_getElem? hl),?_⟩;have e:c%((DR q).length:Int)=(((c%((DR q).length:Int)).toNat:Nat):Int):=by lia
  rw[e];exact JT lay (EV hl)
 obtain⟨l,I,lH⟩:=Z6 (CB ns 0);obtain⟨m,J,jE⟩:=Z6 (CB ns 1);have fj:∀G:Gs,Nb G (.lst ((DR q).map lay))=some (DR q).length:=fun G=>by simp[Nb]
 refine AV 3 FQ.nd (Gu (AA 2 rfl) (HA (Ai FC (hr.mono (by lia)) (AB (AA 0 rfl) (AB AG AE)) ⟨ns,0,rfl,rfl,rfl⟩) (CG (n:=(DR q).length) rfl ml (AA 2 rfl) (fj _)) (by lia)) lH) ?_;refine AV 4 FQ.nd (Gu (AA 2 rfl) (HA (Ai FC (hr.mono (by lia)) (AB (AA 0 rfl) (AB AG AE)) ⟨ns,1,rfl,rfl,rfl⟩) (CG (n:=(DR q).length) rfl ml (AA 2 rfl) (fj _)) (by lia)) jE) ?_;refine BH (p:=!Be q) (CL (B6 (Ai qm (hr.mono (by lia)) (AB (AA 1 rfl) AE) ⟨q,rfl,gd,rfl,rfl⟩))) (fun hpl=>?_) (fun hpl=>AK ?_)
 ·have Ma:Be q=false:=by simpa using hpl
  exact AS (PX.cast (B8 (q:=true) (PX.cast (d':=.bl true) (GV (QC hu (Ai lU (hr.mono (by lia)) (AB (AA 1 rfl) (AB (AA 3 rfl) (AB AG AE))) ⟨q,l,0,rfl,gd,Ma,.inl rfl,rfl,rfl⟩) (By (AB DV (AB DV AE))) rfl rfl)) rfl) fun _=>Ds (PX.cast (d':=.bl true) (GV (QC hu (Ai lU (hr.mono (by lia)) (AB (AA 1 rfl) (AB (AA 3 rfl) (AB AG AE))) ⟨q,l,1,rfl,gd,Ma,.inr rfl,rfl,rfl⟩) (By (AB DV (AB DV AE))) rfl rfl)) rfl)) rfl) hR
 have Ma:Be q=true:=by simpa using hpl
 obtain⟨h,pl⟩:=eK gd Ma;have cl:=HI q;refine BP 5 FQ.nd (Ai FH (hr.mono (by lia)) (AB (AA 1 rfl) (AB (AA 3 rfl) AE)) ⟨q,l,h,rfl,pl,Ma,I,?_⟩);refine BP 6 FQ.nd (Ai FH (hr.mono (by lia)) (AB (AA 1 rfl) (AB (AA 4 rfl) AE)) ⟨q,m,h,rfl,pl,Ma,J,?_⟩);refine BH (p:=false) (PXT.cast (Mc (CL (B6 (Gz (T:="list") (T':="list") mi jt (AA 5 rfl)))) (fun _=>JW (GN (p:=false) (PX.cast (d':=.lst []) (Ff (Nc:=Sg) (caps:=Xv) (l:=(htL h q l).map pi) (f:=Ck 0) (fun _=>false) id
  (Bp (psc:=AF PW) (PN:=VZ) (by decide +kernel) rfl rfl) rfl (Je (AA 5 rfl) ⟨rfl,rfl⟩) (fun C s' H' fp=>Af 0 (show Sg.Nodup by decide +kernel)) (BR rfl) (by unfold htL;rw[List.length_map,List.length_map];lia) ?_) (by simp)) rfl))).t rfl) (fun hc=>absurd hc (by decide)) (fun _=>AK ?_)
 ·intro C s' H' fp G2 d hd kn;obtain⟨y,_,rfl⟩:=List.mem_map.mp hd;exact⟨_,rfl,PXT.cast (CL (B6 (Ai qh (hr.mono (by lia)) (AB (Ao (AA 0 rfl) AG rfl) AE) ⟨y.2,rfl,rfl,rfl⟩))) rfl,fun h=>absurd h (by decide)⟩
 refine BH (p:=false) (PXT.cast (Mc (CL (B6 (Ai FG (hr.mono (by lia)) (AB (AA 1 rfl) (AB (AA 3 rfl) (AB (AA 5 rfl) AE))) ⟨q,l,h,rfl,pl,Ma,I,rfl,rfl⟩))) (fun _=>JW (CL (B6 (Ai FG (hr.mono (by lia)) (AB (AA 1 rfl) (AB (AA 4 rfl) (AB (AA 6 rfl) AE))) ⟨q,m,h,rfl,pl,Ma,J,rfl,rfl⟩))))).t rfl) (fun hc=>absurd hc (by decide)) (fun _=>AK ?_);refine AV 7 FQ.nd (PX.cast (d':=.int ((apart h (Aq q) l m:Nat):Int)) (Vq (ns:=(Aq q).map fun y=>(((h l y-h m y).natAbs:Nat):Int)) rfl ms (PX.cast (Er (Nc:=Ru) (caps:=Zg) (l:=Ec ((htL h q l).map pi) ((htL h q m).map pi)) (f:=Ej 0 1) dif
  (Bp (psc:=AF PW) (PN:=VZ) (by decide +kernel) rfl rfl) rfl (RO mz (AA 5 rfl) (AA 6 rfl) ⟨rfl,rfl⟩)
  (fun C s' H' fp=>Cr 0 1 rfl (show Ru.Nodup by decide +kernel)) (Jm rfl rfl) (by rw[K7,List.length_map];lia) ?_) (by rw[V4 pl I J]))) (by rw[Uh])) ?_
 ·intro C s' H' fp G2 d hd kn;rw[K7]at hd;obtain⟨y,_,rfl⟩:=List.mem_map.mp hd;exact⟨_,rfl,Vt ma (Az (Ao (AA 0 rfl) AG rfl) (Ao (AA 1 rfl) AG rfl))⟩
 ·refine AS (PX.cast (d':=.bl true) (GV (Cb (KY AG (Ai FW (hr.mono (by lia)) (AB (AA 1 rfl) (AB (AA 3 rfl) (AB (AA 4 rfl) AE))) ⟨q,l,m,h,rfl,pl,Ma,I,J,rfl,rfl⟩) (.inl (by decide))) (AA 7 rfl))) ?_) hR
  have:=pl.apart4 (Yv gd) I J
  congr 1;rw[beq_iff_eq];lia
end
end TF
namespace TF
open PySem PySem.Spec L2
open PyProof.Rows hiding St RelV
section
variable {P:Program}{w:World}{K:PySem.W.Frag}{mg:Str->Option Value}{base:Heap}{f:Addr}{fd:FuncData}
theorem OV(F:Fun K "_law_cell" "_law_cell" KA f fd)(ml:mg "len"=none):FnOk P w K mg base CX0 1 f fd C9 (Al K MR):=by
 refine Bh (k:=0) F Oy (fun Aw A outer s H E ds G R hr h=>?_);obtain⟨ns,k,rfl,hR⟩:=h;refine BH (BK (RE (AA 1 rfl) (CG rfl ml (AA 0 rfl) rfl))) (fun hp=>?_) (fun hp=>?_)
 ·have Ar:k<ns.length:=by have:=of_decide_eq_true hp;lia
  refine AS (a6 (AA 0 rfl) (AA 1 rfl) (EV (List.getElem?_eq_getElem Ar))) ?_;have:CB ns k=ns[k]:=by unfold CB;rw[List.getD_eq_getElem?_getD,List.getElem?_eq_getElem Ar];rfl
  rw[<-this];exact hR
 ·refine AK (AS AG ?_);have JP:ns.length<=k:=by have:=of_decide_eq_false hp;lia
  have:CB ns k=0:=by unfold CB;rw[List.getD_eq_getElem?_getD,List.getElem?_eq_none JP];rfl
  rw[this]at hR;exact hR
theorem Qn(F:Fun K "_law_mix" "_law_mix" L6 f fd):FnOk P w K mg base CX0 1 f fd Fv (Al K Ut):=by refine Bh (k:=0) F Q5 (fun Aw A outer s H E ds G R hr h=>?_);obtain⟨c,p,m,rfl,hp,hm,hR⟩:=h;exact AS (HA (HA (KY (AA 0 rfl) AG (.inr (by decide))) (AA 1 rfl) hp) (AA 2 rfl) hm) hR
theorem Eu{X:Cx}{ρ:Rho}{G:Gs}{pos p:Pos}{ns:List Int}{a b:Expr}{k:Nat}(FL:Df X.prog X.w X.K X.mg X.base "_law_cell" C9 1 MR)(hr:Room 1 X.A)(ha:PX X ρ G a (.scr ns))(hb:PX X ρ G b (.int (k:Nat)))(hg:Gl X "_law_cell":=by rfl)(he:starEach (a::[b]) X.env=(false,eval a X.env)::starEach [b] X.env:=by rfl)(he2:starEach [b] X.env=(false,eval b X.env)::starEach [] X.env:=by rfl)(hpl:(backTo pos (starEach [b] X.env)).any (·.1)=false:=by rfl):PX X ρ G (.Call (.Name "_law_cell" p) [a,b] [] pos) (.int (CB ns k)):=Ai FL hr (AB ha (AB hb AE he2) he) ⟨ns,k,rfl,rfl,rfl⟩ hg (by decide) he hpl
theorem C4{X:Cx}{ρ:Rho}{G:Gs}{pos p:Pos}{a b c:Expr}{x y:Int}{m n:Nat}(FM:Df X.prog X.w X.K X.mg X.base "_law_mix" Fv 1 Ut)(hr:Room 1 X.A)(ha:PX X ρ G a (.int x))(hb:PX X ρ G b (.int y))(hc:PX X ρ G c (.int (m:Nat)))(hy:0<y)(hm:0<m)(hv:Th x y m=(n:Nat))(hg:Gl X "_law_mix":=by rfl)(he:starEach [a,b,c] X.env=(false,eval a X.env)::starEach [b,c] X.env:=by rfl)(he2:starEach [b,c] X.env=(false,eval b X.env)::starEach [c] X.env:=by rfl)(rP:starEach [c] X.env=(false,eval c X.env)::starEach [] X.env:=by rfl)(hpl:(backTo pos (starEach [b,c] X.env)).any (·.1)=false:=by rfl):PX X ρ G (.Call (.Name "_law_mix" p) [a,b,c] [] pos) (.int (n:Nat)):=Ai FM hr (AB ha (AB hb (AB hc AE rP) he2) he) ⟨x,y,m,rfl,hy,by lia,by rw[hv];exact⟨rfl,rfl⟩⟩ hg (by decide) he hpl
theorem NQ(F:Fun K "_law_floor" "_law_floor" Cm f fd)(ml:mg "len"=none)(mr:mg "range"=none)(mt:mg "tuple"=none)(mx:mg "max"=none)(mn:mg "min"=none)(FL:Df P w K mg base "_law_cell" C9 1 MR)(FM:Df P w K mg base "_law_mix" Fv 1 Ut):FnOk P w K mg base CX0 2 f fd Ey (Al K SY):=by
 refine Bh (k:=1) F Aa (fun Aw A outer s H E ds G R hr h=>?_);obtain⟨ns,k,rfl,hR⟩:=h;have hu:(A.deeper (envOfC "_law_floor" (AF Cm) s.heap.objs.size f Aw)).units+9<cLine:=by have:=hr.units;lia
 obtain⟨r0,r0l,p8⟩:=C5 (CB ns k) 9973 4 (by decide);obtain⟨w0,rT,rQ⟩:=C5 (CB ns k) 9967 5 (by decide);obtain⟨b0,sJ,oG⟩:=C5 (CB ns k) 9901 8 (by decide);obtain⟨q0,sH,pL⟩:=C5 (CB ns k) 9887 4 (by decide);refine AV 2 Aa.nd (Eu FL hr (AA 0 rfl) (AA 1 rfl)) ?_;refine AV 3 Aa.nd (PX.cast (d':=.int ((1+r0:Nat):Int)) (AX AG (C4 (m:=4) FM hr (AA 2 rfl) AG AG (by decide) (by decide) p8)) rfl) ?_;refine AV 4 Aa.nd (PX.cast (d':=.int ((1+w0:Nat):Int)) (AX AG (C4 (m:=5) FM hr (AA 2 rfl) AG AG (by decide) (by decide) rQ)) rfl) ?_;refine Rv (fun ρ' G'=>G=G'/\∃r wd:Nat,NG r wd/\ρ'=[some (.scr ns),some (.int k),some (.int (CB ns k)),some (.int (r:Nat)),some (.int (wd:Nat)),none,none,none,none,none,none,none,none,none])
  (BK (Cb (C4 (m:=8) FM hr (AA 2 rfl) AG AG (by decide) (by decide) oG) AG)) (fun hp=>?_) (fun hp=>?_) (fun ρ' G' hM=>?_)
 ·obtain⟨r1,oZ,d9⟩:∃r1:Nat,atI [Dat.int 2,.int 3,.int 8,.int 6] ((q0:Nat):Int)=some (.int (r1:Nat))/\0<r1/\NG r1 (24 / r1):=by
   have:q0=0\/q0=1\/q0=2\/q0=3:=by lia
   rcases this with rfl|rfl|rfl|rfl
   ·exact⟨2,rfl,by decide,.inr (.inl ⟨rfl,rfl⟩)⟩
   ·exact⟨3,rfl,by decide,.inr (.inr (.inl ⟨rfl,rfl⟩))⟩
   ·exact⟨8,rfl,by decide,.inr (.inr (.inr (.inl ⟨rfl,rfl⟩)))⟩
   ·exact⟨6,rfl,by decide,.inr (.inr (.inr (.inr ⟨rfl,rfl⟩)))⟩
  refine AV 3 Aa.nd (Gu (By (AB AG (AB AG (AB AG (AB AG AE))))) (C4 (m:=4) FM hr (AA 2 rfl) AG AG (by decide) (by decide) pL) oZ) ?_;have hb:r1<=8:=by rcases d9.2 with h|h|h|h|h<;>lia
  refine AV 4 Aa.nd (PX.cast (d':=.int ((24 / r1:Nat):Int)) (Ng AG (AA 3 rfl) ⟨by lia,by lia⟩) rfl) (AK ⟨rfl,r1,24 / r1,d9.2,rfl⟩)
 ·exact AK ⟨rfl,1+r0,1+w0,.inl ⟨by lia,by lia,by lia,by lia⟩,rfl⟩
 obtain⟨rfl,r,wd,gj,rfl⟩:=hM;have sU:r<=8/\1<=r:=by rcases gj with h|h|h|h|h<;>lia
 have qv:wd<=12/\1<=wd:=by rcases gj with h|h|h|h|h<;>lia
 obtain⟨hmul,Gv⟩:=TY gj;obtain⟨dn,rf,qW⟩:=C5 (CB ns (k+1)) 9949 (9-r) (by lia);obtain⟨rt,sP,qj⟩:=C5 (CB ns (k+1)) 9941 (max 1 (9-wd)) (by lia);have qJ:rt+min wd 8<=8:=by lia
 refine AV 5 Aa.nd (C4 (m:=9-r) FM hr (Eu (k:=k+1) FL hr (AA 0 rfl) (PX.cast (AX (AA 1 rfl) AG) rfl)) AG (PX.cast (Az AG (AA 3 rfl)) (by congr 1;lia)) (by decide) (by lia) qW) ?_;refine AV 6 Aa.nd (C4 (m:=max 1 (9-wd)) FM hr (Eu (k:=k+1) FL hr (AA 0 rfl) (PX.cast (AX (AA 1 rfl) AG) rfl)) AG (PX.cast (YJ rfl mx AG (Az AG (AA 4 rfl))) (by congr 1;lia)) (by decide) (by lia) qj) ?_;refine AV 7 Aa.nd (By AE) ?_;refine BV (l:=BC 0 r) (fun i ρ' G'=>G=G'/\i<=r/\∃x,ρ'=[some (.scr ns),some (.int k),some (.int (CB ns k)),some (.int (r:Nat)),some (.int (wd:Nat)),some (.int (dn:Nat)),some (.int (rt:Nat)),some (.lst ((Kz i (min wd 8) dn rt).map sq)),x,none,none,none,none,none]) PassesOwn.never rfl
  (Fz rfl mr (AA 3 rfl) (by lia) (by lia) ⟨by rw[Int.toNat_natCast],rfl,Nat.zero_le _,none,rfl⟩) (Af 8 Aa.nd) ?_ ?_
 ·rintro i dd ρ' G' hd ⟨rfl,hi,x,rfl⟩;obtain⟨Ar,rfl⟩:=CS hd;refine⟨_,rfl,?_⟩;refine AV 7 Aa.nd (Kt (AA 7 rfl) (Er (Nc:=GY) (caps:=LN) (l:=BC 0 (min wd 8)) (f:=Ck 0) (fun x=>match x with|.int j=>sq ((dn:Int)+(0+(i:Nat)),(rt:Int)+j)|_=>.non)
   (Bp (psc:=AF Cm) (PN:=E7) (by decide +kernel) rfl rfl) rfl (Fz rfl mr (PX.cast (d':=.int ((min wd 8:Nat):Int)) (ZP rfl mn (AA 4 rfl) AG) (by congr 1;lia)) (by lia) (by lia) ⟨by rw[Int.toNat_natCast],rfl⟩)
   (fun C s' H' fp=>Af 0 (show GY.Nodup by decide +kernel)) (BR rfl) (by rw[B9];lia) ?_) ?_) (AK ⟨rfl,Ar,some (.int (0+(i:Nat))),?_⟩)
  ·intro C s' H' fp G' x hx _;obtain⟨j,_,rfl⟩:=Qp hx;exact⟨_,rfl,AM (AB (AX (AA 1 rfl) (AA 2 rfl)) (AB (AX (AA 3 rfl) (AA 0 rfl)) AE))⟩
  ·rw[List.length_map,List.length_map,Kc,B9];have:i*min wd 8<=8*8:=Nat.mul_le_mul (by lia) (by lia);exact sz (by lia)
  ·refine congrArg (fun z=>[some (.scr ns),some (.int k),some (.int (CB ns k)),some (.int (r:Nat)),some (.int (wd:Nat)),some (.int (dn:Nat)),some (.int (rt:Nat)),some (Dat.lst z),some (.int (0+(i:Nat))),none,none,none,none,none]) ?_;rw[Lc,List.map_append];congr 1;unfold BC;rw[List.map_map,List.map_map];refine List.map_congr_left fun j _=>?_;simp[Function.comp,sq]
 rintro ρ' G' ⟨rfl,_,x,rfl⟩;rw[B9];generalize hL:Kz r (min wd 8) dn rt=L;have iV:L.length=r*min wd 8:=by rw[<-hL,Kc]
 have gd:∀F:List Sq,F.Sublist L->F≠[]->Good F:=fun F h1 h2=>Wq (r:=r) (w:=min wd 8) (d:=dn) (e:=rt) hmul (by lia) qJ (by rw[hL];exact h1) h2;have pl:∀l:List Sq,l.length<=6->(l.map sq).all (AH 8)=true:=fun l _=>GB l 7;refine Dy 9 Aa.nd AE (fun p hG=>?_);obtain⟨nk,sR,qN⟩:=C5 (CB ns (k+2)) 9931 4 (by decide);refine BV (l:=BC 0 nk) (fun i ρ' P8=>∃(gone:List Sq)(y1 y2 y3:Option Dat),gone.length<=2*i/\P8=put G p (.lst (gone.map sq))/\ρ'=[some (.scr ns),some (.int k),some (.int (CB ns k)),some (.int (r:Nat)),some (.int (wd:Nat)),some (.int (dn:Nat)),some (.int (rt:Nat)),some (.lst (L.map sq)),x,some (.fn p),y1,y2,y3,none]) PassesOwn.never rfl
  (Fz rfl mr (C4 (m:=4) FM hr (Eu (k:=k+2) FL hr (AA 0 rfl) (PX.cast (AX (AA 1 rfl) AG) rfl)) AG AG (by decide) (by decide) qN) (by lia) (by lia) ⟨by rw[Int.toNat_natCast],[],none,none,none,Nat.le_refl _,rfl,rfl⟩) (Af 10 Aa.nd) ?_ ?_
 ·rintro i dd ρ' P8 hd ⟨gone,y1,y2,y3,kT,rfl,rfl⟩;obtain⟨Ar,rfl⟩:=CS hd;refine⟨_,rfl,?_⟩;generalize hseed:CB ns (k+3+i)+17*(0+(i:Int))*(0+(i:Int))=seed;refine AV 11 Aa.nd (PX.cast (d':=.int seed) (AX (Eu (k:=k+3+i) FL hr (AA 0 rfl) (PX.cast (AX (AX (AA 1 rfl) AG) (AA 10 rfl)) (by congr 1;lia))) (KY (KY AG (AA 10 rfl) (.inl (by decide))) (AA 10 rfl) (.inr (by constructor<;>lia)))) (by rw[hseed])) ?_;obtain⟨ix,sD,oP⟩:=C5 seed 9929 (r*min wd 8) Gv;obtain⟨c3,sS,rJ⟩:=C5 seed 9923 3 (by decide);have eO:ix<L.length:=by lia
  refine AV 12 Aa.nd (Gu (AA 7 rfl) (C4 (m:=r*min wd 8) FM hr (AA 11 rfl) AG (PX.cast (CG rfl ml (AA 7 rfl) rfl) (by rw[List.length_map,iV])) (by decide) Gv oP) (JT sq (EV (List.getElem?_eq_getElem eO)))) ?_;refine Bs (AA 9 rfl) (AA 12 rfl) AI (by rw[List.length_map];exact sz1 (by lia)) ?_;rw[A3];refine BH (BK (Qf (C4 (m:=3) FM hr (AA 11 rfl) AG AG (by decide) (by decide) rJ) AG)) (fun hp=>?_) (fun hp=>AK (AK ?_))
  ·refine Bs (d:=sq (L[ix].1,L[ix].2+1)) (AA 9 rfl) (AM (AB (Ao (AA 12 rfl) AG rfl) (AB (AX (Ao (AA 12 rfl) AG rfl) AG) AE))) AI (by rw[List.length_append,List.length_map];exact sz1 (by simp;lia)) (AK (AK ?_));rw[A3];refine⟨gone++[L[ix],(L[ix].1,L[ix].2+1)],_,_,_,by simp;lia,?_,rfl⟩;simp
  ·refine⟨gone++[L[ix]],_,_,_,by simp;lia,?_,rfl⟩;simp
 rintro ρ' P8 ⟨gone,y1,y2,y3,kT,rfl,rfl⟩;rw[B9]at kT;refine AV 13 Aa.nd (PX.cast (d':=fl (L.filter fun q=>!gone.contains q)) (GF rfl mt Boot.«tuple» (Ff (Nc:=GZ) (caps:=LS) (l:=L.map sq) (f:=Ck 0) (fun d=>!((gone.map sq).any fun e=>eqD e d)) id
  (Bp (psc:=AF Cm) (PN:=E7) (by decide +kernel) rfl rfl) rfl (Je (AA 7 rfl) ⟨rfl,rfl⟩)
   (fun C s' H' fp=>Af 0 (show GZ.Nodup by decide +kernel)) (BR rfl) (by rw[List.length_map];lia) ?_)) ?_) ?_
 ·intro C s' H' fp G2 d hd kn;obtain⟨q,_,rfl⟩:=List.mem_map.mp hd;exact⟨_,rfl,BK (A0 hu (AA 0 rfl) (AA 1 rfl) (.inr (.inr ⟨p,rfl,kn _ _ AI⟩)) (Am q 7) (pl gone (by lia))),fun _=>AA 0 rfl⟩
 ·rw[J7];unfold fl;congr 3;funext q;rw[BQ]
 generalize hF:(L.filter fun q=>!gone.contains q)=F;have En:F.Sublist L:=by rw[<-hF];exact List.filter_sublist
 refine BH (GN (AA 13 rfl) rfl) (fun hp=>?_) (fun hp=>AK ?_)
 ·refine Cf (DG (PX.we (AA 13 rfl) ⟨p,?_⟩));rw[BG hG];refine hR F (gd F En ?_);rintro rfl;simp at hp
 ·refine Cf (DG (PX.we (GF rfl mt Boot.«tuple» (AA 7 rfl)) ⟨p,?_⟩));rw[BG hG];refine hR L (gd L (List.Sublist.refl _) ?_);rintro rfl;simp at iV;lia
end
end TF
namespace TF
open PySem PySem.Spec L2
open PyProof.Rows hiding St RelV
section
variable {P:Program}{w:World}{K:PySem.W.Frag}{mg:Str->Option Value}{base:Heap}{f:Addr}{fd:FuncData}
theorem O4(F:Fun K "_law_near" "_law_near" EH f fd):FnOk P w K mg base CX0 1 f fd EX (Al K QK):=by
 refine Bh (k:=0) F Ip (fun Aw A outer s H E ds G R hr h=>?_);obtain⟨q,x,rfl,hR⟩:=h;have hu:(A.deeper (envOfC "_law_near" (AF EH) s.heap.objs.size f Aw)).units+9<cLine:=by have:=hr.units;lia
 refine Jk (f:=Ej 2 3) (Cr 2 3 rfl Ip.nd) (AA 1 rfl) rfl ?_;refine AS (Ff (Nc:=Hg) (caps:=Mh) (l:=(nbM x).map sq) (f:=Ck 0) (fun d=>(q.map sq).any fun e=>eqD e d) id
  (Bp (psc:=AF EH) (PN:=Kx) (by decide +kernel) rfl rfl) rfl
  (Je (By (AB (AM (AB (Az (AA 2 rfl) AG) (AB (AA 3 rfl) AE))) (AB (AM (AB (AA 2 rfl) (AB (Az (AA 3 rfl) AG) AE)))
   (AB (AM (AB (AA 2 rfl) (AB (AX (AA 3 rfl) AG) AE))) (AB (AM (AB (AX (AA 2 rfl) AG) (AB (AA 3 rfl) AE))) AE))))) ⟨rfl,rfl⟩)
  (fun C s' H' fp=>Af 0 (show Hg.Nodup by decide +kernel)) (BR rfl) (show 4<=5000 by decide) ?_) ?_
 ·intro C s' H' fp G2 d hd kn;obtain⟨y,_,rfl⟩:=List.mem_map.mp hd;exact⟨_,rfl,BK (JV hu (AA 0 rfl) (AA 1 rfl) (.inl rfl) (A5 y) (As q)),fun _=>AA 0 rfl⟩
 ·rw[J7];have:(fun y=>(q.map sq).any fun e=>eqD e (sq y))=q.contains:=funext fun y=>BQ q y;rw[this];exact hR
end
end TF
namespace TF
open PySem PySem.Spec L2
open PyProof.Rows hiding St RelV
section
variable {P:Program}{w:World}{K:PySem.W.Frag}{mg:Str->Option Value}{base:Heap}{f:Addr}{fd:FuncData}
theorem Hi(n:Nat)(F:Fun K "_law_every" "_law_every" Cq f fd)(mt:mg "tuple"=none)(FN:Df P w K mg base "_law_near" EX 1 QK)(ih:∀m,n=m+1->Df P w K mg base "_law_every" Bk (m+2) (Jh m)):FnOk P w K mg base CX0 (n+2) f fd Bk (Al K (Jh n)):=by
 refine Bh (k:=n+1) F Bv (fun Aw A outer s H E ds G R hr h=>?_);obtain⟨q,kp,Ad,rfl,up,hl,hn,hG,hV,hz,hR⟩:=h;have hu:(A.deeper (envOfC "_law_every" (AF Cq) s.heap.objs.size f Aw)).units+9<cLine:=by have:=hr.units;lia
 refine BH (CL (GN (p:=!q.isEmpty) (AA 0 rfl) (by cases q<;>rfl))) (fun hp=>?_) (fun hp=>AK ?_)
 ·have hq:q=[]:=by cases q with|nil=>rfl|cons _ _=>simp at hp
  subst hq;refine AS (By (AB (By AE) AE)) ?_
  have:=hR Ad hV (by have:0<2 ^ n:=Nat.pow_pos (by decide);lia)
  rw[KO hG]at this;exact this
 have Bq:q≠[]:=by rintro rfl;simp at hp
 have pF:0<q.length:=List.length_pos_iff.mpr Bq;obtain⟨m,rfl⟩:∃m,n=m+1:=⟨n-1,by lia⟩;have W:=ih m rfl;have qd:0<2 ^ m:=Nat.pow_pos (by decide);have nu:2 ^ (m+1)=2 ^ m+2 ^ m:=by rw[Nat.pow_succ];lia
 refine Rv (fun ρ' G'=>(∃x2 x3 x4 x5,ρ'=[some (fl q),some (.fn kp),x2,x3,x4,x5])/\∃Ct,G'=put G kp (.dct Ct)/\ValidE Ct/\Ct.length+1<=Ad.length+2 ^ (m+1)/\A1 Ct (fl q)=some (Hk (BA q)))
  (BK (Ea hu (AA 0 rfl) (AA 1 rfl) hG (QM q) ⟨_,rfl⟩)) (fun TU=>?_) (fun TU=>?_) (fun ρ' G' hM=>?_)
 ·refine AV 2 Bv.nd (By AE) ?_;refine AV 3 Bv.nd (Ao (AA 0 rfl) (Eb AG) (Yz Bq)) ?_;have two:=PM up;refine BV (l:=(Cg q (AQ q)).map sq) (f:=Ck 4) (fun i ρ' G'=>(∃x4 x5,ρ'=[some (fl q),some (.fn kp),some (Hk (((Cg q (AQ q)).take i).flatMap fun o=>(BA (CT q (AQ q) o)).map (·++[(o,AQ q)]))),some (sq (AQ q)),x4,x5])/\∃Ct,G'=put G kp (.dct Ct)/\ValidE Ct/\Ct.length<=Ad.length+i*(2 ^ m-1)) PassesOwn.never rfl
   (B5 (Ai FN (hr.mono (by lia)) (AB (AA 0 rfl) (AB (AA 3 rfl) AE)) ⟨q,AQ q,rfl,_,rfl,rfl,⟨none,none,rfl⟩,Ad,(KO hG).symm,hV,by simp⟩)) (Af 4 Bv.nd) ?_ ?_
  ·rintro i dd ρ' G' hd ⟨⟨x4,x5,rfl⟩,ZV,rfl,j5,cX⟩;rw[List.getElem?_map]at hd;obtain⟨o,MG,rfl⟩:=Option.map_eq_some_iff.mp hd;have av:i<(Cg q (AQ q)).length:=(List.getElem?_eq_some_iff.mp MG).1;have ho:o∈Cg q (AQ q):=List.mem_of_getElem? MG;have Tx:=FU up Bq ho;have iH:i*(2 ^ m-1)<=2 ^ m-1:=by
    have:i=0\/i=1:=by lia
    rcases this with rfl|rfl<;>lia
   refine⟨_,rfl,?_⟩;refine AV 5 Bv.nd (PX.cast (d':=fl (CT q (AQ q) o)) (GF rfl mt Boot.«tuple» (Ff (Nc:=Gh) (caps:=LQ) (l:=q.map sq) (f:=Ck 0) (fun d=>!(eqD d (sq (AQ q)))&&!(eqD d (sq o))) id
    (Bp (psc:=AF Cq) (PN:=E6) (by decide +kernel) rfl rfl) rfl (FY (AA 0 rfl) ⟨rfl,rfl⟩)
     (fun C s' H' fp=>Af 0 (show Gh.Nodup by decide +kernel)) (BR rfl) (by rw[List.length_map];lia) ?_)) ?_) ?_
   ·intro C s' H' fp G2 d hd kn;obtain⟨y,_,rfl⟩:=List.mem_map.mp hd;exact⟨_,rfl,(C6 (BK (RZ hu (AA 0 rfl) (AA 1 rfl) rfl (Am y 8) (Am _ 8))) fun _=>D8 (BK (RZ hu (AA 0 rfl) (AA 2 rfl) rfl (Am y 8) (Am _ 8)))).t,fun _=>AA 0 rfl⟩
   ·rw[J7];unfold fl CT;congr 3;funext y;rw[Kh,Kh]
   have kc:=fun r hr=>SW (GC _ (Nat.le_refl _) (Gq up (AQ q) o) r hr);have XF:=Ie m (F:=CT q (AQ q) o) (by lia) (Gq up _ _);have kI:2 ^ m<=2 ^ 11:=Nat.pow_le_pow_right (by decide) (by lia);have n8:(2:Nat) ^ 11=2048:=by decide
   have dJ:(((Cg q (AQ q)).take i).flatMap fun o=>(BA (CT q (AQ q) o)).map (·++[(o,AQ q)])).length<=2048:=by
    have:i=0\/i=1:=by lia
    rcases this with rfl|rfl
    ·simp
    ·obtain⟨a,t,e⟩:∃a t,Cg q (AQ q)=a::t:=List.exists_cons_of_ne_nil (List.ne_nil_of_mem ho);have ha:a∈Cg q (AQ q):=by rw[e];exact List.mem_cons_self ..
     have aQ:=FU up Bq ha
     have:=Ie m (F:=CT q (AQ q) a) (by lia) (Gq up _ _)
     rw[e];simp;lia
   refine BP 2 Bv.nd (Zi (AA 2 rfl) (OY (Nc:=Gg) (caps:=LM) (l:=(BA (CT q (AQ q) o)).map PQ) (f:=Ck 0) (fun d=>match d with|.lst l=>.lst (l++[Ay (o,AQ q)])|_=>.non)
    (fun G'=>∃Ct,G'=put G kp (.dct Ct)/\ValidE Ct/\Ct.length<=Ad.length+(i+1)*(2 ^ m-1))
    (Bp (psc:=AF Cq) (PN:=E6) (by decide +kernel) rfl rfl) rfl
    (B5 (Ai W (hr.mono (by lia)) (AB (AA 5 rfl) (AB (AA 1 rfl) AE)) ⟨CT q (AQ q) o,kp,ZV,rfl,Gq up _ _,by lia,by lia,AI,j5,by lia,fun bx iN aQ=>⟨_,rfl,rfl,bx,A3,iN,?_⟩⟩))
    (fun C s' H' fp=>Af 0 (show Gg.Nodup by decide +kernel)) (BR rfl) (by rw[List.length_map];exact sz1 (by lia)) ?_ ?_))
   ·have:(i+1)*(2 ^ m-1)=i*(2 ^ m-1)+(2 ^ m-1):=by rw[Nat.add_mul];lia
    lia
   ·intro C s' H' fp G2 d hd;obtain⟨r,m3,rfl⟩:=List.mem_map.mp hd
    have:=kc r m3
    exact⟨_,rfl,Kt (AA 0 rfl) (By (AB (AM (AB (AA 2 rfl) (AB (AA 1 rfl) AE))) AE)) (by rw[List.length_map];exact sz (by simp;lia))⟩
   ·rintro G2 ⟨bx,rfl,iN,aQ⟩;refine⟨_,rfl,?_,AK ⟨⟨some (sq o),some (fl (CT q (AQ q) o)),?_⟩,bx,rfl,iN,aQ⟩⟩
    ·rw[List.length_map,List.length_map,List.length_map];refine sz (Nat.le_trans (Nat.add_le_add dJ (Nat.le_trans XF kI)) (by decide))
    ·refine congrArg (fun z=>[some (fl q),some (.fn kp),some z,some (sq (AQ q)),some (sq o),some (fl (CT q (AQ q) o))]) ?_;rw[List.take_add_one,MG,List.flatMap_append];unfold Hk;simp only[Option.toList_some,List.flatMap_cons,List.flatMap_nil,List.append_nil,List.map_append,List.map_map,Dat.lst.injEq];congr 1;refine List.map_congr_left fun r _=>?_;simp[Function.comp,PQ]
  ·rintro ρ' G' ⟨⟨x4,x5,rfl⟩,ZV,rfl,j5,cX⟩;rw[List.length_map,List.take_length,<-GI Bq]at *;have Tx:ZV.length<=Ad.length+2*(2 ^ m-1):=Nat.le_trans cX (Nat.add_le_add_left (Nat.mul_le_mul_right _ two) _);refine Ht (k:=fl q) (d:=Hk (BA q)) hu (AA 2 rfl) (AA 1 rfl) (AA 0 rfl) AI (QM q) ⟨_,rfl⟩ (sz1 (by have:(2:Nat) ^ 12=4096:=rfl;lia)) (AK ⟨⟨_,_,_,_,rfl⟩,?_⟩);rw[A3];exact⟨_,rfl,j5.put q,by have:=Ft ZV (fl q) (Hk (BA q));lia,Q1 _ _ _⟩
 ·refine AK ⟨⟨_,_,_,_,rfl⟩,Ad,(KO hG).symm,hV,by lia,?_⟩;have hs:(A1 Ad (fl q)).isSome=true:=by
   cases e:(A1 Ad (fl q)).isSome with
   |true=>rfl
   |false=>
    have JU:(!(A1 Ad (fl q)).isSome)=false:=TU;rw[e]at JU;cases JU
  obtain⟨d,hd⟩:=Option.isSome_iff_exists.mp hs;rw[hd,hV.look hd]
 ·obtain⟨⟨x2,x3,x4,x5,rfl⟩,Ct,rfl,ow,Yg,look⟩:=hM;exact AS (JR (k:=fl q) hu (AA 1 rfl) (AA 0 rfl) AI (QM q) ⟨_,rfl⟩ look) (hR Ct ow Yg)
theorem QJ(F:Fun K "_law_all" "_law_all" GJ f fd)(mt:mg "tuple"=none)(ms:mg "sorted"=none)(W:Df P w K mg base "_law_every" Bk 14 (Jh 12)):FnOk P w K mg base CX0 15 f fd II (Al K Zx):=by
 refine Bh (k:=14) F Qa (fun Aw A outer s H E ds G R hr h=>?_);obtain⟨q,rfl,Bq,up,hl,hR⟩:=h;have hu:(A.deeper (envOfC "_law_all" (AF GJ) s.heap.objs.size f Aw)).units+20<cLine:=by have:=hr.units;lia
 have ez:=Ie 12 (F:=q) (by lia) up;have nA:(2:Nat) ^ 12=4096:=by decide
 have V0:ValidE []:=fun _ h=>nomatch h;refine AS (Kq cC ((BA q).map TSt.sort) (d1:=.lst (((BA q).map TSt.sort).map lay)) hu ms (DG (OY (Nc:=Ij) (caps:=Ny) (l:=(BA q).map PQ) (f:=Ck 0) (via PQ fun r=>lay (TSt.sort r))
  (fun G'=>∃p Ad,G p=none/\G'=put G p (.dct Ad)) (Bp (psc:=AF GJ) (PN:=Lh) (by decide +kernel) rfl rfl) rfl
  (B5 (cP W hr (R9 (PX.we (AA 0 rfl) (R9 (ZQ fun p hp=>cW ⟨q,p,[],rfl,up,by lia,by lia,AI,V0,by decide,fun Ct _ _=>⟨_,rfl,rfl,p,Ct,hp,A3⟩⟩))))))
  (fun C s' H' fp=>Af 0 (show Ij.Nodup by decide +kernel)) (BR rfl) (by rw[List.length_map];exact sz1 (by lia)) ?_ ?_)) (.inl rfl) ?_) ?_
 ·intro C s' H' fp G2 d hd;obtain⟨r,m3,rfl⟩:=List.mem_map.mp hd;refine⟨_,rfl,?_⟩;rw[U8 Oz];exact GF rfl mt Boot.«tuple» (Kq TSt r hu ms (AA 0 rfl) (.inl rfl) (.inr fun x _=>⟨_,_,rfl⟩))
 ·rintro G' ⟨p,Ad,hp,rfl⟩;refine⟨p,?_,?_⟩
  ·rw[X0 Oz,List.map_map];rfl
  ·rw[BG hp]
 ·refine .inr fun x hx=>?_;obtain⟨r,hr,rfl⟩:=List.mem_map.mp hx;have C:=(GC _ (Nat.le_refl _) up r hr).lay (Lw up);have hc:=SW C.toCov;have pF:0<q.length:=List.length_pos_iff.mpr Bq;obtain⟨a,t,e⟩:∃a t,TSt.sort r=a::t:=List.exists_cons_of_ne_nil (by intro h0;rw[h0]at hc;simp at hc;lia);rw[e];exact⟨_,_,rfl⟩
 ·exact hR
end
end TF
namespace TF
open PySem PySem.Spec L2
open PyProof.Rows hiding St RelV
def U5:SpD:=fun ds G R=>∃i:Int,ds=[.int i]/\R (.bl true) G
def Rg:SpD:=fun ds G R=>∃q:Sq,ds=[sq q]/\R (.bl true) G
section
variable {P:Program}{w:World}{K:PySem.W.Frag}{mg:Str->Option Value}{base:Heap}{f:Addr}{fd:FuncData}
theorem Ms(F:Fun K "is_number" "is_number" Ir f fd)(mi:mg "isinstance"=none)(mn:mg "int"=none)(mb:mg "bool"=none):FnOk P w K mg base CX0 1 f fd Ew (Al K U5):=by refine Bh (k:=0) F Ni (fun Aw A outer s H E ds G R hr h=>?_);obtain⟨i,rfl,hR⟩:=h;refine AS (B8 (Gz (T:="int") (T':="int") mi mn (AA 0 rfl)) fun _=>Ds (Mq (Gz (T:="bool") (T':="bool") mi mb (AA 0 rfl)))) ?_;exact hR
theorem Q8(F:Fun K "is_pair" "is_pair" Ln f fd)(mi:mg "isinstance"=none)(mt:mg "tuple"=none)(ml:mg "len"=none):FnOk P w K mg base CX0 1 f fd IP (Al K Rg):=by refine Bh (k:=0) F RD (fun Aw A outer s H E ds G R hr h=>?_);obtain⟨q,rfl,hR⟩:=h;refine AS (B8 (Gz (T:="tuple") (T':="tuple") mi mt (AA 0 rfl)) fun _=>Ds (PX.cast (d':=.bl true) (GV (Cb (CG (n:=2) rfl ml (AA 0 rfl) rfl) AG)) rfl)) ?_;exact hR
theorem Nr(F:Fun K "is_place" "is_place" K3 f fd)(FP:Df P w K mg base "is_pair" IP 1 Rg)(FN:Df P w K mg base "is_number" Ew 1 U5):FnOk P w K mg base CX0 2 f fd HE (Al K Rg):=by refine Bh (k:=1) F Pm (fun Aw A outer s H E ds G R hr h=>?_);obtain⟨q,rfl,hR⟩:=h;exact AS (B8 (Ai FP hr (AB (AA 0 rfl) AE) ⟨q,rfl,rfl,rfl⟩) fun _=>B8 (Ai FN hr (AB (Ao (AA 0 rfl) AG rfl) AE) ⟨q.1,rfl,rfl,rfl⟩) fun _=>Ds (Ai FN hr (AB (Ao (AA 0 rfl) AG rfl) AE) ⟨q.2,rfl,rfl,rfl⟩)) hR
end
end TF
namespace TF
open PySem PySem.Spec L2
open PyProof.Rows hiding St RelV
section
variable {P:Program}{w:World}{K:PySem.W.Frag}{mg:Str->Option Value}{base:Heap}{f:Addr}{fd:FuncData}
theorem M6(F:Fun K "is_rising" "is_rising" DU f fd)(ma:mg "all"=none)(mz:mg "zip"=none):FnOk P w K mg base CX0 1 f fd Et (Al K PH):=by
 refine Bh (k:=0) F MY (fun Aw A outer s H E ds G R hr h=>?_);obtain⟨l,rfl,hz,ho,hR⟩:=h;have hu:(A.deeper (envOfC "is_rising" (AF DU) s.heap.objs.size f Aw)).units+9<cLine:=by have:=hr.units;lia
 refine AS (Ws (bs:=(l.zip (l.drop 1)).map fun p=>CK true p.1 p.2) rfl ma (PX.cast (Er (Nc:=Gd) (caps:=LX) (l:=Ec l (l.drop 1)) (f:=Ej 0 1) (fun d=>match d with|.tup [x,y]=>.bl (CK true x y)|_=>.non)
  (Bp (psc:=AF DU) (PN:=Iz) (by decide +kernel) rfl rfl) rfl
  (bz mz (AA 0 rfl) (PX.cast (Le (ol:=some 1) (oh:=none) (AA 0 rfl) AG trivial) (by rw[ic])) ⟨rfl,rfl⟩)
  (fun C s' H' fp=>Cr 0 1 rfl (show Gd.Nodup by decide +kernel)) (Jm rfl rfl) ?_ ?_) ?_)) ?_
 ·unfold Ec;rw[List.length_map,List.length_zip];lia
 ·intro C s' H' fp G2 d hd kn;unfold Ec at hd;obtain⟨p,hp,rfl⟩:=List.mem_map.mp hd;obtain⟨h1,h2,h3⟩:=ho p hp;exact⟨_,rfl,GV (Yq hu (AA 0 rfl) (AA 1 rfl) h1 h2 h3)⟩
 ·unfold Ec;rw[List.map_map,List.map_map];rfl
 ·rw[List.all_map];exact hR
end
end TF
namespace TF
open PySem PySem.Spec L2
open PyProof.Rows hiding St RelV
section
variable {P:Program}{w:World}{K:PySem.W.Frag}{mg:Str->Option Value}{base:Heap}{f:Addr}{fd:FuncData}
theorem Gi(F:Fun K "neighbours" "neighbours" HM f fd):FnOk P w K mg base CX0 1 f fd ER (Al K (Mb nbM)):=by
 refine Bh (k:=0) F Dq (fun Aw A outer s H E ds G R hr h=>?_);obtain⟨q,rfl,hR⟩:=h;refine AV 1 Dq.nd (Ao (AA 0 rfl) AG rfl) ?_;refine AV 2 Dq.nd (Ao (AA 0 rfl) AG rfl) ?_;exact AS (By (AB (AM (AB (Az (AA 1 rfl) AG) (AB (AA 2 rfl) AE))) (AB (AM (AB (AA 1 rfl) (AB (Az (AA 2 rfl) AG) AE)))
  (AB (AM (AB (AA 1 rfl) (AB (AX (AA 2 rfl) AG) AE))) (AB (AM (AB (AX (AA 1 rfl) AG) (AB (AA 2 rfl) AE))) AE))))) hR
theorem Ez(F:Fun K "corner_neighbours" "corner_neighbours" C1 f fd):FnOk P w K mg base CX0 1 f fd BL (Al K (Mb cnM)):=by
 refine Bh (k:=0) F Br (fun Aw A outer s H E ds G R hr h=>?_);obtain⟨q,rfl,hR⟩:=h;refine AV 1 Br.nd (Ao (AA 0 rfl) AG rfl) ?_;refine AV 2 Br.nd (Ao (AA 0 rfl) AG rfl) ?_;exact AS (By (AB (AM (AB (Az (AA 1 rfl) AG) (AB (Az (AA 2 rfl) AG) AE))) (AB (AM (AB (Az (AA 1 rfl) AG) (AB (AX (AA 2 rfl) AG) AE)))
  (AB (AM (AB (AX (AA 1 rfl) AG) (AB (Az (AA 2 rfl) AG) AE))) (AB (AM (AB (AX (AA 1 rfl) AG) (AB (AX (AA 2 rfl) AG) AE))) AE))))) hR
theorem Ge(F:Fun K "all_around" "all_around" HF f fd)(F1:Df P w K mg base "neighbours" ER 1 (Mb nbM))(F2:Df P w K mg base "corner_neighbours" BL 1 (Mb cnM)):FnOk P w K mg base CX0 2 f fd Hm (Al K (Mb aaM)):=by refine Bh (k:=1) F LO (fun Aw A outer s H E ds G R hr h=>?_);obtain⟨q,rfl,hR⟩:=h;exact AS (Kt (l:=(nbM q).map sq) (m:=(cnM q).map sq) (Ai F1 hr (AB (AA 0 rfl) AE) ⟨q,rfl,rfl,rfl⟩) (Ai F2 hr (AB (AA 0 rfl) AE) ⟨q,rfl,rfl,rfl⟩) (show 8<=sizeLine by decide)) hR
theorem KS(kk:Nat)(F:Fun K "reached" "reached" IU f fd)(ml:mg "len"=none):FnOk P w K mg base CX0 (kk+1) f fd GL (Al K (IV P w K mg base kk)):=by
 refine Bh (k:=kk) F DK (fun Aw A outer s H E ds G R hr h=>?_);obtain⟨start,g,gd,f',nb,rfl,oX,FA,kT,hR⟩:=h;have hu:(A.deeper (envOfC "reached" (AF IU) s.heap.objs.size f Aw)).units+9<cLine:=by have:=hr.units;lia
 refine BP 3 DK.nd (aP hu (fun _ _=>AA 0 rfl) (fun _ _=>DV) (CC start) ⟨_,rfl⟩ (fun p1 TU=>?_));refine Dy 4 DK.nd (AB (AA 0 rfl) AE) (fun p2 JU=>?_);have Bq:p1≠p2:=by rintro rfl;rw[AI]at JU;cases JU
 have YX:G p2=none:=by rw[Ak (Ne.symm Bq)]at JU;exact JU
 have En:∀L:List Sq,L.Nodup->(∀x∈L,Con (fun a b=>b∈nb a) (·∈g) start x)->L.length<=g.length+1:=fun L h1 h2=>by
  have:=BE h1 fun x hx=>X3 (h2 x hx)
  simpa using this
 refine GK (fun m ρ' G'=>∃(L W:List Sq)(y5 y6:Option Dat),ρ'=[some (sq start),some gd,some (.fn f'),some (.fn p1),some (.fn p2),y5,y6]/\G'=put (put G p1 (.dct (L.map kvT))) p2 (.lst (W.map sq)) ∧
   L.Nodup/\start∈L/\(∀x∈L,Con (fun a b=>b∈nb a) (·∈g) start x)/\(∀x∈W,x∈L)/\(∀x∈L,x∈W\/∀y∈nb x,y∈g->y∈L)/\m=2*(g.length+1-L.length)+W.length/\m<=2*g.length+1) PassesOwn.never
  (m0:=2*(g.length+1-1)+1) ⟨[start],[start],none,none,rfl,rfl,by simp,by simp,fun x hx=>by rw[List.mem_singleton.mp hx];exact .base,fun x hx=>hx,fun x hx=>.inl hx,rfl,by lia⟩ ?_
 rintro m ρ' G' ⟨L,W,y5,y6,rfl,rfl,nd,hs,hc,hW,GW,hm,Xf⟩;refine DO (BK (Qf (CG (n:=W.length) rfl ml (AA 4 rfl) (by simp[Nb,AI])) AG)) ⟨fun hp=>?_,fun hp=>?_⟩
 ·have Gv:0<W.length:=by have:=of_decide_eq_true hp;lia
  obtain⟨W0,x,rfl⟩:∃W0 x,W=W0++[x]:=⟨W.dropLast,W.getLast (List.ne_nil_of_length_pos Gv),(List.dropLast_concat_getLast _).symm⟩;rw[List.length_append,List.length_singleton]at hm;refine BP 5 DK.nd (Qj (d:=sq x) (l:=W0.map sq) (AA 4 rfl) (by rw[AI,List.map_append];rfl) ?_);rw[A3];have hx:x∈L:=hW x (by simp);have AY:=En L nd hc;refine BV (l:=(nb x).map sq) (fun i ρ' G'=>∃(L W:List Sq)(y6:Option Dat),ρ'=[some (sq start),some gd,some (.fn f'),some (.fn p1),some (.fn p2),some (sq x),y6]/\G'=put (put G p1 (.dct (L.map kvT))) p2 (.lst (W.map sq)) ∧
    L.Nodup/\start∈L/\(∀x∈L,Con (fun a b=>b∈nb a) (·∈g) start x)/\(∀x∈W,x∈L)/\x∈L/\(∀z∈L,z∈W\/(∀y∈nb z,y∈g->y∈L)\/z=x)/\(∀y∈(nb x).take i,y∈g->y∈L)/\2*(g.length+1-L.length)+W.length+1<=m) PassesOwn.never rfl
   (B5 (VC (AA 2 rfl) FA hr (AB (AA 5 rfl) AE) ⟨x,rfl,_,rfl,rfl,L,W0,y6,rfl,rfl,nd,hs,hc,fun z hz=>hW z (by simp[hz]),hx,?_,by simp,by lia⟩)) (Af 6 DK.nd) ?_ ?_
  ·intro z hz;rcases GW z hz with h|h
   ·rcases List.mem_append.mp h with h|h
    ·exact .inl h
    ·exact .inr (.inr (List.mem_singleton.mp h))
   ·exact .inr (.inl h)
  ·clear AY hx GW hW hc hs nd hm;rintro i dd ρ' G' hd ⟨L,W,y6,rfl,rfl,nd,hs,hc,hW,hx,GW,hi,hm⟩;rw[List.getElem?_map]at hd;obtain⟨y,hy,rfl⟩:=Option.map_eq_some_iff.mp hd;have Z5:y∈nb x:=List.mem_of_getElem? hy;have et:(nb x).take (i+1)=(nb x).take i++[y]:=by rw[List.take_add_one,hy];rfl
   have Ei:put (put G p1 (.dct (L.map kvT))) p2 (.lst (W.map sq)) p1=some (.dct (L.map kvT)):=by rw[Ak Bq,AI]
   have AY:=En L nd hc;refine⟨_,rfl,BH (C6 (BK (JV hu (AA 6 rfl) (AA 1 rfl) (oX.elim .inl fun h=>.inr (.inl h)) (A5 y) (As g))) (fun _=>D8 (BK (Ea hu (AA 6 rfl) (AA 3 rfl) Ei (CC y) ⟨_,rfl⟩)))).t (fun hp=>?_) (fun hp=>AK (AK ?_))⟩
   ·rw[BQ,Hv]at hp;simp only[Bool.and_eq_true,Bool.not_eq_true',List.contains_eq_mem,decide_eq_true_eq,decide_eq_false_iff_not]at hp;obtain⟨dh,To⟩:=hp;refine Ht (d:=.bl true) hu DV (AA 3 rfl) (AA 6 rfl) Ei (CC y) ⟨_,rfl⟩ (by rw[List.length_map];exact sz1 (by lia)) ?_;rw[XI To];refine Bs (d:=sq y) (l:=W.map sq) (AA 4 rfl) (AA 6 rfl) (by rw[Ak (Ne.symm Bq),AI]) (by rw[List.length_map];exact sz1 (by lia)) (AK (AK ?_));refine⟨L++[y],W++[y],_,rfl,?_,?_,by simp[hs],?_,?_,by simp[hx],?_,?_,?_⟩
    ·rw[fM Bq];simp only[List.map_append,List.map_cons,List.map_nil]
    ·rw[List.nodup_append];exact⟨nd,by simp,fun a ha b hb e=>by rw[List.mem_singleton.mp hb]at e;subst e;exact To ha⟩
    ·intro z hz;rcases List.mem_append.mp hz with h|h
     ·exact hc z h
     ·rw[List.mem_singleton.mp h];exact .step (hc x hx) Z5 dh
    ·intro z hz;rcases List.mem_append.mp hz with h|h
     ·exact List.mem_append_left _ (hW z h)
     ·exact List.mem_append_right _ h
    ·intro z hz;rcases List.mem_append.mp hz with h|h
     ·rcases GW z h with h|h|h
      ·exact .inl (List.mem_append_left _ h)
      ·exact .inr (.inl fun y' h1 h2=>List.mem_append_left _ (h y' h1 h2))
      ·exact .inr (.inr h)
     ·exact .inl (List.mem_append_right _ h)
    ·intro y' h1 h2;rw[et]at h1;rcases List.mem_append.mp h1 with h|h
     ·exact List.mem_append_left _ (hi y' h h2)
     ·exact List.mem_append_right _ h
    ·have XE:=En (L++[y]) (by
      rw[List.nodup_append];exact⟨nd,by simp,fun a ha b hb e=>by rw[List.mem_singleton.mp hb]at e;subst e;exact To ha⟩) (by
      intro z hz;rcases List.mem_append.mp hz with h|h
      ·exact hc z h
      ·rw[List.mem_singleton.mp h];exact .step (hc x hx) Z5 dh)
     simp only[List.length_append,List.length_singleton]at XE ⊢;lia
   ·rw[BQ,Hv]at hp;refine⟨L,W,_,rfl,rfl,nd,hs,hc,hW,hx,GW,?_,hm⟩;intro y' h1 h2;rw[et]at h1;rcases List.mem_append.mp h1 with h|h
    ·exact hi y' h h2
    ·rw[List.mem_singleton.mp h]at h2 ⊢;refine Classical.byContradiction fun hn=>?_;simp[h2,hn]at hp
  ·clear AY hx GW hW hc hs nd hm;rintro ρ' G' ⟨L,W,y6,rfl,rfl,nd,hs,hc,hW,hx,GW,hi,hm⟩;rw[List.length_map,List.take_length]at hi;refine AK ⟨_,hm,L,W,_,y6,rfl,rfl,nd,hs,hc,hW,fun z hz=>?_,rfl,by lia⟩;rcases GW z hz with h|h|rfl
   ·exact .inl h
   ·exact .inr h
   ·exact .inr hi
 ·have dz:W=[]:=by
   have:=of_decide_eq_false hp
   exact List.eq_nil_of_length_eq_zero (by lia)
  subst dz;refine Cf (DG (PX.we (AA 3 rfl) ⟨p2,?_⟩));rw[BG (by rw[Ak (Ne.symm Bq)];exact YX)];exact hR p1 L TU (XY nd hs hc fun x hx y h1 h2=>by
   rcases GW x hx with h|h
   ·cases h
   ·exact h y h1 h2)
theorem HG(F:Fun K "hangs_together" "hangs_together" D2 f fd)(ml:mg "len"=none)(FR:Df P w K mg base "reached" GL 2 (IV P w K mg base 1))(FN:∃f',mg "neighbours"=some (.ref f')/\DfA P w K mg base f' ["square"] 1 (Mb nbM)):FnOk P w K mg base CX0 3 f fd CZ (Al K (spF fun F=>.bl (JA F))):=by
 refine Bh (k:=2) F Hh (fun Aw A outer s H E ds G R hr h=>?_);obtain⟨q,rfl,gd,hR⟩:=h;obtain⟨f',hm,FA⟩:=FN;have eO:=RJ gd;refine AS (GV (Cb (i:=(card nbR (·∈q) (q.headD (0,0)):Nat)) (j:=(q.length:Nat)) (DG (MV ml (Ai FR hr (AB (Ao (AA 0 rfl) AG eO) (AB (AA 0 rfl) (AB (Zz hm) AE)))
  ⟨q.headD (0,0),q,_,f',nbM,rfl,.inl rfl,FA,by have:=gd.len;lia,fun p L hp hL=>⟨p,_,rfl,AI,p,?_,BG hp⟩⟩))) (CG rfl ml (AA 0 rfl) (JZ _ _)))) hR
 rw[List.length_map,hL.card]
theorem JQ(F:Fun K "bare_squares" "bare_squares" Bt f fd)(mr:mg "range"=none)(mn:mg "min"=none)(mx:mg "max"=none):FnOk P w K mg base CX0 1 f fd DH (Al K Ux):=by
 refine Bh (k:=0) F BD (fun Aw A outer s H E ds G R hr h=>?_);obtain⟨q,r0,r1,c0,c1,rfl,gd,bb,hR⟩:=h;have hu:(A.deeper (envOfC "bare_squares" (AF Bt) s.heap.objs.size f Aw)).units+9<cLine:=by have:=hr.units;lia
 have oK:=gd.len;have f6:∀a∈q.map (·.1),0<=a/\a<=7:=fun a ha=>by obtain⟨p,hp,rfl⟩:=List.mem_map.mp ha;have:=gd.inn p hp;lia
 have dc:∀a∈q.map (·.2),0<=a/\a<=7:=fun a ha=>by obtain⟨p,hp,rfl⟩:=List.mem_map.mp ha;have:=gd.inn p hp;lia
 have b1:=f6 _ bb.r0m;have b2:=f6 _ bb.r1m;have b3:=dc _ bb.c0m;have b4:=dc _ bb.c1m;obtain⟨ql,rM⟩:=bb.le;have step:∀(i:Int)(g:Sq->Int)(d:Dat),d∈q.map sq->∃p,d=sq p:=fun i g d hd=>by obtain⟨p,_,e⟩:=List.mem_map.mp hd;exact⟨p,e.symm⟩
 refine KL 1 (Nc:=D6) (caps:=IL) (l:=q.map sq) (f:=Ck 0) (fun d=>match d with|.tup [.int a,.int b]=>.int a|_=>.non) BD.nd
  (Bp (psc:=AF Bt) (PN:=DI) (by decide +kernel) rfl rfl) rfl (FY (AA 0 rfl) ⟨rfl,rfl⟩) (fun C s' H' fp=>Af 0 (show D6.Nodup by decide +kernel)) (BR rfl) (by rw[List.length_map];lia) ?_ ?_
 ·intro C s' H' fp G' d hd _;obtain⟨p,_,rfl⟩:=List.mem_map.mp hd;exact⟨_,rfl,Ao (AA 0 rfl) AG rfl⟩
 have e1:(q.map sq).map (fun d=>match d with|.tup [.int a,.int b]=>Dat.int a|_=>.non)=(q.map (·.1)).map Dat.int:=by
  rw[List.map_map,List.map_map];rfl
 rw[e1];refine KL 2 (Nc:=Dz) (caps:=IT) (l:=q.map sq) (f:=Ck 0) (fun d=>match d with|.tup [.int a,.int b]=>.int b|_=>.non) BD.nd
  (Bp (psc:=AF Bt) (PN:=DI) (by decide +kernel) rfl rfl) rfl (FY (AA 0 rfl) ⟨rfl,rfl⟩) (fun C s' H' fp=>Af 0 (show Dz.Nodup by decide +kernel)) (BR rfl) (by rw[List.length_map];lia) ?_ ?_
 ·intro C s' H' fp G' d hd _;obtain⟨p,_,rfl⟩:=List.mem_map.mp hd;exact⟨_,rfl,Ao (AA 0 rfl) AG rfl⟩
 have e2:(q.map sq).map (fun d=>match d with|.tup [.int a,.int b]=>Dat.int b|_=>.non)=(q.map (·.2)).map Dat.int:=by
  rw[List.map_map,List.map_map];rfl
 rw[e2];refine Dy 3 BD.nd AE (fun p hG=>?_);refine BV (l:=BC (r0-1) (r1+2-(r0-1)).toNat) (fun i ρ' G'=>∃(y4 y5:Option Dat),ρ'=[some (fl q),some (.lst ((q.map (·.1)).map Dat.int)),some (.lst ((q.map (·.2)).map Dat.int)),some (.fn p),y4,y5] ∧
   G'=put G p (.lst (((DQ (r0-1) (c0-1) i (c1+2-(c0-1)).toNat).filter fun z=>!q.contains z).map sq))) PassesOwn.never rfl
  (Lg rfl mr (Az (Rn rfl mn (AA 1 rfl) bb.r0m bb.r0l) AG) (AX (Rt rfl mx (AA 1 rfl) bb.r1m bb.r1l) AG) (by lia) ⟨rfl,none,none,rfl,rfl⟩) (Af 4 BD.nd) ?_ ?_
 ·rintro i dd ρ' G' hd ⟨y4,y5,rfl,rfl⟩;obtain⟨Ar,rfl⟩:=CS hd;refine⟨_,rfl,?_⟩;refine BV (l:=BC (c0-1) (c1+2-(c0-1)).toNat) (fun j ρ' G'=>∃(y5:Option Dat),ρ'=[some (fl q),some (.lst ((q.map (·.1)).map Dat.int)),some (.lst ((q.map (·.2)).map Dat.int)),some (.fn p),some (.int (r0-1+(i:Nat))),y5] ∧
    G'=put G p (.lst (((DQ (r0-1) (c0-1) i (c1+2-(c0-1)).toNat++(List.range j).map fun(j:Nat)=>(r0-1+(i:Nat),c0-1+(j:Int))).filter fun z=>!q.contains z).map sq))) PassesOwn.never rfl
   (Lg rfl mr (Az (Rn rfl mn (AA 2 rfl) bb.c0m bb.c0l) AG) (AX (Rt rfl mx (AA 2 rfl) bb.c1m bb.c1l) AG) (by lia) ⟨rfl,y5,rfl,by simp⟩) (Af 5 BD.nd) ?_ ?_
  ·rintro j dd ρ' G' hd ⟨y5,rfl,rfl⟩;obtain⟨rC,rfl⟩:=CS hd;have es:(List.range (j+1)).map (fun(j:Nat)=>((r0-1+(i:Nat),c0-1+(j:Int)):Sq))=(List.range j).map (fun(j:Nat)=>((r0-1+(i:Nat),c0-1+(j:Int)):Sq))++[(r0-1+(i:Nat),c0-1+(j:Int))]:=by
    rw[List.range_succ,List.map_append];rfl
   refine⟨_,rfl,BH (BK (A0 hu (AM (AB (AA 4 rfl) (AB (AA 5 rfl) AE))) (AA 0 rfl) (.inl rfl) (A5 (r0-1+(i:Nat),c0-1+(j:Int))) (As q))) (fun hp=>?_) (fun hp=>AK (AK ⟨_,rfl,?_⟩))⟩
   ·have Se:(!q.contains (r0-1+(i:Int),c0-1+(j:Int)))=true:=by rw[<-BQ];exact hp
    refine Bs (d:=sq (r0-1+(i:Int),c0-1+(j:Int))) (AA 3 rfl) (AM (AB (AA 4 rfl) (AB (AA 5 rfl) AE))) AI ?_ (AK (AK ⟨_,rfl,?_⟩))
    ·rw[List.length_map];refine sz1 (Nat.le_trans (List.length_filter_le _ _) ?_);rw[List.length_append,Hb,List.length_map,List.length_range];have:i*(c1+2-(c0-1)).toNat<=10*10:=Nat.mul_le_mul (by lia) (by lia);lia
    ·rw[A3,es,<-List.append_assoc,XR _ _ _ Se]
   ·have Se:¬(!q.contains (r0-1+(i:Int),c0-1+(j:Int)))=true:=by rw[<-BQ];exact Bool.eq_false_iff.mp hp
    rw[es,<-List.append_assoc,TQ _ _ _ Se]
  ·rintro ρ' G' ⟨y5,rfl,rfl⟩;rw[B9];refine AK ⟨_,_,rfl,?_⟩;rw[Km]
 ·rintro ρ' G' ⟨y4,y5,rfl,rfl⟩;rw[B9];refine N0 (AA 3 rfl) AI ?_;rw[BG hG];exact hR
theorem N8(F:Fun K "has_hole" "has_hole" Jw f fd)(ml:mg "len"=none)(FB:Df P w K mg base "bare_squares" DH 1 Ux)(FR:Df P w K mg base "reached" GL 3 (IV P w K mg base 2))(FN:∃f',mg "all_around"=some (.ref f')/\DfA P w K mg base f' ["square"] 2 (Mb aaM)):FnOk P w K mg base CX0 4 f fd Gy (Al K Ug):=by
 refine Bh (k:=3) F Il (fun Aw A outer s H E ds G R hr h=>?_);obtain⟨q,r0,r1,c0,c1,rfl,gd,bb,hR⟩:=h;obtain⟨f',hm,FA⟩:=FN;refine AV 1 Il.nd (Ai FB (hr.mono (by lia)) (AB (AA 0 rfl) AE) ⟨q,r0,r1,c0,c1,rfl,gd,bb,rfl,rfl⟩) ?_;have eO:atI ((DA q r0 r1 c0 c1).map sq) 0=some (sq (r0-1,c0-1)):=by obtain⟨r,e⟩:=UR bb;rw[e];exact EV (j:=0) rfl
 refine AS (GV (RE (i:=(card aaR (·∈DA q r0 r1 c0 c1) (r0-1,c0-1):Nat)) (j:=((DA q r0 r1 c0 c1).length:Nat)) (DG (MV ml (Ai FR hr (AB (Gu (AA 1 rfl) AG eO) (AB (AA 1 rfl) (AB (Zz hm) AE)))
  ⟨(r0-1,c0-1),DA q r0 r1 c0 c1,_,f',aaM,rfl,.inr rfl,FA,?_,fun p L hp hL=>⟨p,_,rfl,AI,p,?_,BG hp⟩⟩))) (CG rfl ml (AA 1 rfl) (by simp[Nb])))) hR
 ·exact Yn gd bb
 ·rw[List.length_map,hL.card]
theorem D4(F:Fun K "meet_by_corner_alone" "meet_by_corner_alone" BX f fd):FnOk P w K mg base CX0 1 f fd BW (Al K W2):=by
 refine Bh (k:=0) F EA (fun Aw A outer s H E ds G R hr h=>?_);obtain⟨q,s',o,rfl,hR⟩:=h;have hu:(A.deeper (envOfC "meet_by_corner_alone" (AF BX) s.heap.objs.size f Aw)).units+9<cLine:=by have:=hr.units;lia
 refine AS (B8 (GV (JV hu (AA 2 rfl) (AA 0 rfl) (.inl rfl) (A5 o) (As q))) fun _=>B8 (GV (A0 hu (AM (AB (Ao (AA 1 rfl) AG rfl) (AB (Ao (AA 2 rfl) AG rfl) AE))) (AA 0 rfl) (.inl rfl) (A5 (s'.1,o.2)) (As q)))
  fun _=>Ds (GV (A0 hu (AM (AB (Ao (AA 2 rfl) AG rfl) (AB (Ao (AA 1 rfl) AG rfl) AE))) (AA 0 rfl) (.inl rfl) (A5 (o.1,s'.2)) (As q)))) ?_
 have e1:=BQ q o;have e2:=BQ q (s'.1,o.2);have e3:=BQ q (o.1,s'.2);unfold Lm at hR;rw[<-e1,<-e2,<-e3]at hR;exact hR
theorem Gx(F:Fun K "has_bare_corner" "has_bare_corner" DW f fd)(FM:Df P w K mg base "meet_by_corner_alone" BW 1 W2)(FC:Df P w K mg base "corner_neighbours" BL 1 (Mb cnM)):FnOk P w K mg base CX0 2 f fd CH (Al K (spF fun F=>.bl (Hs F))):=by
 refine Bh (k:=1) F CA (fun Aw A outer s H E ds G R hr h=>?_);obtain⟨q,rfl,gd,hR⟩:=h;replace hR:R (.bl (Hs q)) G:=hR;refine BV (l:=q.map sq) (fun i ρ' G'=>G=G'/\(∃y1 y2,ρ'=[some (fl q),y1,y2])/\((q.take i).any fun s=>(cnM s).any fun o=>Lm q s o)=false) PassesOwn.never rfl (FY (AA 0 rfl) ⟨rfl,rfl,⟨none,none,rfl⟩,by simp⟩) (Af 1 CA.nd) ?_ ?_
 ·rintro i dd ρ' G' hd ⟨rfl,⟨y1,y2,rfl⟩,T5⟩;rw[List.getElem?_map]at hd;obtain⟨x,hx,rfl⟩:=Option.map_eq_some_iff.mp hd;refine⟨_,rfl,?_⟩;refine BV (l:=(cnM x).map sq) (fun j ρ' G'=>G=G'/\(∃y2,ρ'=[some (fl q),some (sq x),y2])/\(((cnM x).take j).any fun o=>Lm q x o)=false) PassesOwn.never rfl (B5 (Ai FC hr (AB (AA 1 rfl) AE) ⟨x,rfl,_,rfl,rfl,rfl,⟨y2,rfl⟩,by simp⟩)) (Af 2 CA.nd) ?_ ?_
  ·rintro j dd ρ' G' hd ⟨rfl,⟨y2,rfl⟩,NP⟩;rw[List.getElem?_map]at hd;obtain⟨o,ho,rfl⟩:=Option.map_eq_some_iff.mp hd;refine⟨_,rfl,BH (B6 (Ai FM hr (AB (AA 0 rfl) (AB (AA 1 rfl) (AB (AA 2 rfl) AE))) ⟨q,x,o,rfl,rfl,rfl⟩)) (fun hp=>AS DV ?_) (fun hp=>AK (AK ⟨rfl,⟨_,rfl⟩,?_⟩))⟩
   ·have:Hs q=true:=by
     unfold Hs;rw[List.any_eq_true];refine⟨x,List.mem_of_getElem? hx,?_⟩;rw[List.any_eq_true];exact⟨o,List.mem_of_getElem? ho,hp⟩
    rw[this]at hR;exact hR
   ·rw[List.take_add_one,ho,List.any_append,NP];simp[hp]
  ·rintro ρ' G' ⟨rfl,⟨y2,rfl⟩,NP⟩;rw[List.length_map,List.take_length]at NP;refine AK ⟨rfl,⟨_,_,rfl⟩,?_⟩;rw[List.take_add_one,hx,List.any_append,T5];simp[NP]
 ·rintro ρ' G' ⟨rfl,⟨y1,y2,rfl⟩,T5⟩;rw[List.length_map,List.take_length]at T5;refine AS DV ?_;have:Hs q=false:=T5;rw[this]at hR;exact hR
theorem Oe(F:Fun K "is_plain" "is_plain" KR f fd)(ml:mg "len"=none)(F1:Df P w K mg base "hangs_together" CZ 3 (spF fun F=>.bl (JA F)))(F2:Df P w K mg base "has_hole" Gy 4 Ug)(F3:Df P w K mg base "has_bare_corner" CH 2 (spF fun F=>.bl (Hs F))):FnOk P w K mg base CX0 5 f fd ES (Al K (spF fun F=>.bl (Be F))):=by
 refine Bh (k:=4) F N3 (fun Aw A outer s H E ds G R hr h=>?_);obtain⟨q,rfl,gd,hR⟩:=h;obtain⟨r0,r1,c0,c1,bb⟩:=kZ gd.ne;refine BH (BK (Cb (CG rfl ml (AA 0 rfl) (JZ _ _)) AG)) (fun hp=>?_) (fun hp=>AK ?_)
 ·exfalso
  have:=List.length_pos_iff.mpr gd.ne
  rw[beq_iff_eq]at hp;lia
 refine AS (B8 (Ai F1 (hr.mono (by lia)) (AB (AA 0 rfl) AE) ⟨q,rfl,gd,rfl,rfl⟩) fun _=>B8 (Mq (Ai F2 hr (AB (AA 0 rfl) AE) ⟨q,r0,r1,c0,c1,rfl,gd,bb,rfl,rfl⟩)) fun _=>Ds (Mq (Ai F3 (hr.mono (by lia)) (AB (AA 0 rfl) AE) ⟨q,rfl,gd,rfl,rfl⟩))) ?_;rw[Yb gd bb];exact hR
end
end TF
namespace TF
open PySem PySem.Spec L2
open PyProof.Rows hiding St RelV
section
variable {P:Program}{w:World}{K:PySem.W.Frag}{mg:Str->Option Value}{base:Heap}{f:Addr}{fd:FuncData}
theorem Mj(F:Fun K "_law_hangs" "_law_hangs" DX f fd)(ml:mg "len"=none)(FN:Df P w K mg base "_law_near" EX 1 QK):FnOk P w K mg base CX0 2 f fd Fn (Al K (spF fun F=>.bl (JA F))):=by
 refine Bh (k:=1) F CM (fun Aw A outer s H E ds G R hr h=>?_);obtain⟨q,rfl,gd,hR⟩:=h;replace hR:R (.bl (JA q)) G:=hR;have hu:(A.deeper (envOfC "_law_hangs" (AF DX) s.heap.objs.size f Aw)).units+9<cLine:=by have:=hr.units;lia
 have oK:=gd.len;have h0:q.headD (0,0)∈q:=by
  cases q with
  |nil=>exact absurd rfl gd.ne
  |cons a r=>exact List.mem_cons_self ..
 refine AV 1 CM.nd (By (AB (Ao (AA 0 rfl) AG (RJ gd)) AE)) ?_;refine AV 2 CM.nd AG ?_;refine GK (fun m ρ' G'=>G=G'/\∃(L:List Sq)(a:Nat),ρ'=[some (fl q),some (.lst (L.map sq)),some (.int (a:Nat))]/\L.Nodup/\q.headD (0,0)∈L/\(∀x∈L,Con nbR (·∈q) (q.headD (0,0)) x)/\(∀x∈L,x∈q)/\(∀x∈L.take a,∀y∈nbM x,y∈q->y∈L)/\m=q.length-a/\a<=L.length) PassesOwn.never (m0:=q.length)
  ⟨rfl,[q.headD (0,0)],0,rfl,by simp,by simp,fun x hx=>by rw[List.mem_singleton.mp hx];exact .base,fun x hx=>by rw[List.mem_singleton.mp hx];exact h0,by simp,rfl,by simp⟩ ?_
 rintro m ρ' G' ⟨rfl,L,a,rfl,nd,hs,hc,P2,GW,hm,dX⟩;have iV:=BE nd P2;refine DO (BK (RE (AA 2 rfl) (CG rfl ml (AA 1 rfl) rfl))) ⟨fun hp=>?_,fun hp=>?_⟩
 ·have Ar:a<L.length:=by have:=of_decide_eq_true hp;rw[List.length_map]at this;lia
  refine AV 1 CM.nd (Kt (AA 1 rfl) (Ff (Nc:=Ga) (caps:=La) (l:=((nbM L[a]).filter q.contains).map sq) (f:=Ck 0) (fun d=>!((L.map sq).any fun e=>eqD e d)) id
   (Bp (psc:=AF DX) (PN:=Im) (by decide +kernel) rfl rfl) rfl
   (B5 (Ai FN hr (AB (AA 0 rfl) (AB (Gu (AA 1 rfl) (AA 2 rfl) (JT sq (EV (List.getElem?_eq_getElem Ar)))) AE)) ⟨q,L[a],rfl,_,rfl,rfl,rfl⟩))
   (fun C s' H' fp=>Af 0 (show Ga.Nodup by decide +kernel)) (BR rfl) ?_ ?_) ?_) ?_
  ·rw[List.length_map];exact Nat.le_trans (List.length_filter_le _ _) (show 4<=5000 by decide)
  ·intro C s' H' fp G2 d hd kn;obtain⟨y,_,rfl⟩:=List.mem_map.mp hd;exact⟨_,rfl,BK (A0 hu (AA 0 rfl) (AA 1 rfl) (.inr (.inl rfl)) (A5 y) (As L)),fun _=>AA 0 rfl⟩
  ·rw[J7,List.length_map,List.length_map]
   have:=Nat.le_trans (List.length_filter_le (fun y=>!((L.map sq).any fun e=>eqD e (sq y))) ((nbM L[a]).filter q.contains)) (Nat.le_trans (List.length_filter_le _ _) (show 4<=5000 by decide))
   have h4:(((nbM L[a]).filter q.contains).filter fun y=>!((L.map sq).any fun e=>eqD e (sq y))).length<=4:=Nat.le_trans (List.length_filter_le _ _) (Nat.le_trans (List.length_filter_le _ _) (Nat.le_refl 4));exact sz (by lia)
  refine AV 2 CM.nd (PX.cast (d':=.int ((a+1:Nat):Int)) (AX (AA 2 rfl) AG) rfl) (AK ?_);have ef:(fun y=>!((L.map sq).any fun e=>eqD e (sq y)))=fun y=>!L.contains y:=funext fun y=>by rw[BQ]
  have em:∀y,y∈(((nbM L[a]).filter q.contains).filter fun y=>!L.contains y)↔y∈nbM L[a]/\y∈q/\y∉L:=fun y=>by
   simp only[List.mem_filter,List.contains_eq_mem,decide_eq_true_eq,Bool.not_eq_true',decide_eq_false_iff_not,and_assoc]
  refine⟨q.length-(a+1),by lia,rfl,L++(((nbM L[a]).filter q.contains).filter fun y=>!L.contains y),a+1,?_,?_,List.mem_append_left _ hs,?_,?_,?_,rfl,by rw[List.length_append];lia⟩
  ·rw[J7,ef,<-List.map_append];rfl
  ·rw[List.nodup_append];refine⟨nd,((OH _).filter _).filter _,fun x hx y hy e=>?_⟩;subst e;exact((em x).mp hy).2.2 hx
  ·intro x hx;rcases List.mem_append.mp hx with h|h
   ·exact hc x h
   ·obtain⟨h1,h2,_⟩:=(em x).mp h;exact .step (hc _ (List.getElem_mem Ar)) h1 h2
  ·intro x hx;rcases List.mem_append.mp hx with h|h
   ·exact P2 x h
   ·exact((em x).mp h).2.1
  ·intro x hx y h1 h2;rw[List.take_append_of_le_length (by lia),List.take_add_one,List.getElem?_eq_getElem Ar]at hx;rcases List.mem_append.mp hx with h|h
   ·exact List.mem_append_left _ (GW x h y h1 h2)
   ·simp at h;subst h;by_cases hy:y∈L
    ·exact List.mem_append_left _ hy
    ·exact List.mem_append_right _ ((em y).mpr ⟨h1,h2,hy⟩)
 ·have JP:a=L.length:=by have:=of_decide_eq_false hp;rw[List.length_map]at this;lia
  rw[JP,List.take_length]at GW;have rl:RL nbR (·∈q) (q.headD (0,0)) L:=XY nd hs hc GW;refine AS (GV (Cb (CG rfl ml (AA 1 rfl) rfl) (CG rfl ml (AA 0 rfl) (JZ _ _)))) ?_;unfold JA at hR;rw[rl.card]at hR;rw[List.length_map];exact hR
theorem J3(F:Fun K "_law_no_hole" "_law_no_hole" Di f fd)(ml:mg "len"=none)(mr:mg "range"=none):FnOk P w K mg base CX0 1 f fd Dl (Al K (spF fun F=>.bl (DS F))):=by
 refine Bh (k:=0) F BO (fun Aw A outer s H E ds G R hr h=>?_);obtain⟨q,rfl,gd,hR⟩:=h;replace hR:R (.bl (DS q)) G:=hR;have hu:(A.deeper (envOfC "_law_no_hole" (AF Di) s.heap.objs.size f Aw)).units+9<cLine:=by have:=hr.units;lia
 refine BP 1 BO.nd (aP (k:=sq (-1,-1)) hu (fun _ _=>AM (AB (Eb AG) (AB (Eb AG) AE))) (fun _ _=>DV) (CC _) ⟨_,rfl⟩ (fun p1 TU=>?_));refine Dy (ds:=[sq (-1,-1)]) 2 BO.nd (AB (AM (AB (Eb AG) (AB (Eb AG) AE))) AE) (fun p2 JU=>?_);have Bq:p1≠p2:=by rintro rfl;rw[AI]at JU;cases JU
 have YX:G p2=none:=by rw[Ak (Ne.symm Bq)]at JU;exact JU
 have m1:g2 q (-1,-1):=⟨by decide,fun hm=>by have:=gd.inn _ hm;simp at this⟩;have En:∀L:List Sq,L.Nodup->(∀x∈L,Con n9R (g2 q) (-1,-1) x)->L.length<=100:=fun L h1 h2=>by
  have:=BE h1 (m:=DQ (-1) (-1) 10 10) fun x hx=>Cd.mpr (by have:=((h2 x hx).in m1).1;lia)
  rw[Hb]at this;exact this
 refine GK (fun m ρ' G'=>∃(L W:List Sq)(y3 y4 y5 y6:Option Dat),ρ'=[some (fl q),some (.fn p1),some (.fn p2),y3,y4,y5,y6]/\G'=put (put G p1 (.dct (L.map kvT))) p2 (.lst (W.map sq)) ∧
   L.Nodup/\(-1,-1)∈L/\(∀x∈L,Con n9R (g2 q) (-1,-1) x)/\(∀x∈W,x∈L)/\(∀x∈L,x∈W\/∀y∈n9 x,g2 q y->y∈L)/\m=2*(100-L.length)+W.length/\m<=200) PassesOwn.never
  (m0:=2*(100-1)+1) ⟨[(-1,-1)],[(-1,-1)],none,none,none,none,rfl,rfl,by simp,by simp,fun x hx=>by rw[List.mem_singleton.mp hx];exact .base,fun x hx=>hx,fun x hx=>.inl hx,rfl,by lia⟩ ?_
 rintro m ρ' G' ⟨L,W,y3,y4,y5,y6,rfl,rfl,nd,hs,hc,hW,GW,hm,Xf⟩;refine DO (RC (AA 2 rfl) AI rfl) ⟨fun hp=>?_,fun hp=>?_⟩
 ·have Gv:0<W.length:=by
   cases W with
   |nil=>simp at hp
   |cons a r=>simp
  obtain⟨W0,x,rfl⟩:∃W0 x,W=W0++[x]:=⟨W.dropLast,W.getLast (List.ne_nil_of_length_pos Gv),(List.dropLast_concat_getLast _).symm⟩;rw[List.length_append,List.length_singleton]at hm;refine OW (f:=Ej 3 4) (Cr 3 4 rfl BO.nd) (Qj (d:=sq x) (l:=W0.map sq) (AA 2 rfl) (by rw[AI,List.map_append];rfl) ⟨_,rfl,?_⟩);rw[A3];have hx:x∈L:=hW x (by simp);have AY:=En L nd hc;refine BV (l:=BC 0 9) (fun i ρ' G'=>∃(L W:List Sq)(y5 y6:Option Dat),ρ'=[some (fl q),some (.fn p1),some (.fn p2),some (.int x.1),some (.int x.2),y5,y6]/\G'=put (put G p1 (.dct (L.map kvT))) p2 (.lst (W.map sq)) ∧
    L.Nodup/\(-1,-1)∈L/\(∀x∈L,Con n9R (g2 q) (-1,-1) x)/\(∀x∈W,x∈L)/\x∈L/\(∀z∈L,z∈W\/(∀y∈n9 z,g2 q y->y∈L)\/z=x)/\(∀y∈(n9 x).take i,g2 q y->y∈L)/\2*(100-L.length)+W.length+1<=m) PassesOwn.never rfl
   (Fz rfl mr AG (by decide) (by decide) ⟨rfl,L,W0,y5,y6,rfl,rfl,nd,hs,hc,fun z hz=>hW z (by simp[hz]),hx,?_,by simp,by lia⟩) (Af 5 BO.nd) ?_ ?_
  ·intro z hz;rcases GW z hz with h|h
   ·rcases List.mem_append.mp h with h|h
    ·exact .inl h
    ·exact .inr (.inr (List.mem_singleton.mp h))
   ·exact .inr (.inl h)
  ·clear AY hx GW hW hc hs nd hm;rintro i dd ρ' G' hd ⟨L,W,y5,y6,rfl,rfl,nd,hs,hc,hW,hx,GW,hi,hm⟩;obtain⟨Ar,rfl⟩:=CS hd;obtain⟨y,m4⟩:∃y:Sq,y=(x.1+((i / 3:Nat):Int)-1,x.2+((i%3:Nat):Int)-1):=⟨_,rfl⟩;have hy:(n9 x)[i]?=some y:=by unfold n9;rw[List.getElem?_map,List.getElem?_range Ar,m4];rfl
   have Z5:y∈n9 x:=List.mem_of_getElem? hy;have et:(n9 x).take (i+1)=(n9 x).take i++[y]:=by rw[List.take_add_one,hy];rfl
   have Ei:put (put G p1 (.dct (L.map kvT))) p2 (.lst (W.map sq)) p1=some (.dct (L.map kvT)):=by rw[Ak Bq,AI]
   have AY:=En L nd hc;refine⟨_,rfl,?_⟩;refine AV 6 BO.nd (PX.cast (d':=sq y) (AM (AB (Az (AX (AA 3 rfl) (Ng (AA 5 rfl) AG ⟨by decide,by decide⟩)) AG) (AB (Az (AX (AA 4 rfl) (HA (AA 5 rfl) AG (by decide))) AG) AE))) ?_) ?_
   ·rw[m4];simp only[sq,Dat.tup.injEq,List.cons.injEq,Dat.int.injEq,and_true];lia
   refine BH (C6 (N6 (Eb AG) (Ao (AA 6 rfl) AG rfl) AG) fun _=>C6 (N6 (Eb AG) (Ao (AA 6 rfl) AG rfl) AG) fun _=>C6 (BK (A0 hu (AA 6 rfl) (AA 0 rfl) (.inl rfl) (A5 y) (As q))) fun _=>D8 (BK (Ea hu (AA 6 rfl) (AA 1 rfl) Ei (CC y) ⟨_,rfl⟩))).t (fun hp=>?_) (fun hp=>AK (AK ?_))
   ·rw[BQ,Hv]at hp;simp only[Bool.and_eq_true,Bool.not_eq_true',List.contains_eq_mem,decide_eq_true_eq,decide_eq_false_iff_not]at hp;obtain⟨⟨k1,k2⟩,⟨k3,k4⟩,k5,To⟩:=hp;have dh:g2 q y:=⟨⟨k1,k2,k3,k4⟩,k5⟩;refine Ht (d:=.bl true) hu DV (AA 1 rfl) (AA 6 rfl) Ei (CC y) ⟨_,rfl⟩ (by rw[List.length_map];exact sz1 (by lia)) ?_;rw[XI To];refine Bs (d:=sq y) (l:=W.map sq) (AA 2 rfl) (AA 6 rfl) (by rw[Ak (Ne.symm Bq),AI]) (by rw[List.length_map];exact sz1 (by lia)) (AK (AK ?_));refine⟨L++[y],W++[y],_,_,rfl,?_,?_,by simp[hs],?_,?_,by simp[hx],?_,?_,?_⟩
    ·rw[fM Bq];simp only[List.map_append,List.map_cons,List.map_nil]
    ·rw[List.nodup_append];exact⟨nd,by simp,fun a ha b hb e=>by rw[List.mem_singleton.mp hb]at e;subst e;exact To ha⟩
    ·intro z hz;rcases List.mem_append.mp hz with h|h
     ·exact hc z h
     ·rw[List.mem_singleton.mp h];exact .step (hc x hx) Z5 dh
    ·intro z hz;rcases List.mem_append.mp hz with h|h
     ·exact List.mem_append_left _ (hW z h)
     ·exact List.mem_append_right _ h
    ·intro z hz;rcases List.mem_append.mp hz with h|h
     ·rcases GW z h with h|h|h
      ·exact .inl (List.mem_append_left _ h)
      ·exact .inr (.inl fun y' h1 h2=>List.mem_append_left _ (h y' h1 h2))
      ·exact .inr (.inr h)
     ·exact .inl (List.mem_append_right _ h)
    ·intro y' h1 h2;rw[et]at h1;rcases List.mem_append.mp h1 with h|h
     ·exact List.mem_append_left _ (hi y' h h2)
     ·exact List.mem_append_right _ h
    ·have XE:=En (L++[y]) (by
      rw[List.nodup_append];exact⟨nd,by simp,fun a ha b hb e=>by rw[List.mem_singleton.mp hb]at e;subst e;exact To ha⟩) (by
      intro z hz;rcases List.mem_append.mp hz with h|h
      ·exact hc z h
      ·rw[List.mem_singleton.mp h];exact .step (hc x hx) Z5 dh)
     simp only[List.length_append,List.length_singleton]at XE ⊢;lia
   ·rw[BQ,Hv]at hp;refine⟨L,W,_,_,rfl,rfl,nd,hs,hc,hW,hx,GW,?_,hm⟩;intro y' h1 h2;rw[et]at h1;rcases List.mem_append.mp h1 with h|h
    ·exact hi y' h h2
    ·rw[List.mem_singleton.mp h]at h2 ⊢;refine Classical.byContradiction fun hn=>?_;obtain⟨⟨k1,k2,k3,k4⟩,k5⟩:=h2;simp[k1,k2,k3,k4,k5,hn]at hp
  ·clear AY hx GW hW hc hs nd hm;rintro ρ' G' ⟨L,W,y5,y6,rfl,rfl,nd,hs,hc,hW,hx,GW,hi,hm⟩;rw[B9,show(n9 x).take 9=n9 x from List.take_of_length_le (by simp[n9])]at hi;refine AK ⟨_,hm,L,W,_,_,_,_,rfl,rfl,nd,hs,hc,hW,fun z hz=>?_,rfl,by lia⟩;rcases GW z hz with h|h|rfl
   ·exact .inl h
   ·exact .inr h
   ·exact .inr hi
 ·have dz:W=[]:=by
   cases W with
   |nil=>rfl
   |cons a r=>simp at hp
  subst dz;have rl:RL n9R (g2 q) (-1,-1) L:=XY nd hs hc fun x hx y h1 h2=>by
   rcases GW x hx with h|h
   ·cases h
   ·exact h y h1 h2
  refine Cf (DG (DG (PX.we (GV (Cb (Y3 ml (AA 1 rfl) (by rw[Ak Bq,AI])) (Az AG (CG rfl ml (AA 0 rfl) (JZ _ _))))) ⟨p2,p1,?_⟩)));rw[BG (by rw[Ak (Ne.symm Bq)];exact YX),BG TU,List.length_map];unfold DS at hR;rw[rl.card]at hR;exact hR
theorem JL(F:Fun K "_law_no_pinch" "_law_no_pinch" DB f fd):FnOk P w K mg base CX0 1 f fd DM (Al K (spF fun F=>.bl (!Ca F))):=by
 refine Bh (k:=0) F Cz (fun Aw A outer s H E ds G R hr h=>?_);obtain⟨q,rfl,gd,hR⟩:=h;replace hR:R (.bl (!Ca q)) G:=hR;have hu:(A.deeper (envOfC "_law_no_pinch" (AF DB) s.heap.objs.size f Aw)).units+9<cLine:=by have:=hr.units;lia
 refine BV (l:=q.map sq) (f:=Ej 1 2) (fun i ρ' G'=>G=G'/\(∃y1 y2 y3,ρ'=[some (fl q),y1,y2,y3])/\((q.take i).any fun s=>[(-1:Int),1].any fun t=>EJ q s t)=false) PassesOwn.never rfl (FY (AA 0 rfl) ⟨rfl,rfl,⟨none,none,none,rfl⟩,by simp⟩) (Cr 1 2 rfl Cz.nd) ?_ ?_
 ·rintro i dd ρ' G' hd ⟨rfl,⟨y1,y2,y3,rfl⟩,T5⟩;rw[List.getElem?_map]at hd;obtain⟨x,hx,rfl⟩:=Option.map_eq_some_iff.mp hd;refine⟨_,rfl,?_⟩;refine BV (l:=[(-1:Int),1].map Dat.int) (fun j ρ' G'=>G=G'/\(∃y3,ρ'=[some (fl q),some (.int x.1),some (.int x.2),y3])/\(([(-1:Int),1].take j).any fun t=>EJ q x t)=false) PassesOwn.never rfl (FY (AM (AB (Eb AG) (AB AG AE))) ⟨rfl,rfl,⟨y3,rfl⟩,by simp⟩) (Af 3 Cz.nd) ?_ ?_
  ·rintro j dd ρ' G' hd ⟨rfl,⟨y3,rfl⟩,NP⟩;rw[List.getElem?_map]at hd;obtain⟨o,ho,rfl⟩:=Option.map_eq_some_iff.mp hd;have e1:=BQ q (x.1+1,x.2+o);have e2:=BQ q (x.1,x.2+o);have e3:=BQ q (x.1+1,x.2);refine⟨_,rfl,BH (p:=EJ q x o) ?_ (fun hp=>AS DV ?_) (fun hp=>AK (AK ⟨rfl,⟨_,rfl⟩,?_⟩))⟩
   ·unfold EJ;rw[<-e1,<-e2,<-e3];exact(C6 (BK (JV hu (AM (AB (AX (AA 1 rfl) AG) (AB (AX (AA 2 rfl) (AA 3 rfl)) AE))) (AA 0 rfl) (.inl rfl) (A5 (x.1+1,x.2+o)) (As q))) fun _=>C6 (BK (A0 hu (AM (AB (AA 1 rfl) (AB (AX (AA 2 rfl) (AA 3 rfl)) AE))) (AA 0 rfl) (.inl rfl) (A5 (x.1,x.2+o)) (As q)))
     fun _=>D8 (BK (A0 hu (AM (AB (AX (AA 1 rfl) AG) (AB (AA 2 rfl) AE))) (AA 0 rfl) (.inl rfl) (A5 (x.1+1,x.2)) (As q)))).t
   ·have:Ca q=true:=by
     unfold Ca;rw[List.any_eq_true];refine⟨x,List.mem_of_getElem? hx,?_⟩;rw[List.any_eq_true];exact⟨o,List.mem_of_getElem? ho,hp⟩
    rw[this]at hR;exact hR
   ·rw[List.take_add_one,ho,List.any_append,NP];simp[hp]
  ·rintro ρ' G' ⟨rfl,⟨y3,rfl⟩,NP⟩;rw[List.length_map,List.take_length]at NP;refine AK ⟨rfl,⟨_,_,_,rfl⟩,?_⟩;rw[List.take_add_one,hx,List.any_append,T5,Option.toList_some,List.any_cons,NP];rfl
 ·rintro ρ' G' ⟨rfl,⟨y1,y2,y3,rfl⟩,T5⟩;rw[List.length_map,List.take_length]at T5;refine AS DV ?_;have:Ca q=false:=T5;rw[this]at hR;exact hR
theorem Nf(F:Fun K "_law_plain" "_law_plain" JG f fd)(F1:Df P w K mg base "_law_hangs" Fn 2 (spF fun F=>.bl (JA F)))(F2:Df P w K mg base "_law_no_hole" Dl 1 (spF fun F=>.bl (DS F)))(F3:Df P w K mg base "_law_no_pinch" DM 1 (spF fun F=>.bl (!Ca F))):FnOk P w K mg base CX0 3 f fd E8 (Al K (spF fun F=>.bl (Be F))):=by refine Bh (k:=2) F MP (fun Aw A outer s H E ds G R hr h=>?_);obtain⟨q,rfl,gd,hR⟩:=h;refine AS (B8 (Ai F1 hr (AB (AA 0 rfl) AE) ⟨q,rfl,gd,rfl,rfl⟩) fun _=>B8 (Ai F2 (hr.mono (by lia)) (AB (AA 0 rfl) AE) ⟨q,rfl,gd,rfl,rfl⟩) fun _=>Ds (Ai F3 (hr.mono (by lia)) (AB (AA 0 rfl) AE) ⟨q,rfl,gd,rfl,rfl⟩)) ?_;rw[<-J1];exact hR
end
end TF
namespace TF
open PySem PySem.Spec L2
open PyProof.Rows hiding St RelV
section
variable {P:Program}{w:World}{K:PySem.W.Frag}{mg:Str->Option Value}{base:Heap}{f:Addr}{fd:FuncData}
theorem Ih(F:Fun K "holds_squares" "holds_squares" Cy f fd)(mi:mg "isinstance"=none)(mt:mg "tuple"=none)(ma:mg "all"=none)(FP:Df P w K mg base "is_place" HE 2 Rg)(FR:Df P w K mg base "is_rising" Et 1 PH):FnOk P w K mg base CX0 3 f fd B7 (Al K Mf):=by
 refine Bh (k:=2) F IQ (fun Aw A outer s H E ds G R hr h=>?_);obtain⟨M,rfl,hz,up,hR⟩:=h;refine AS (B8 (Gz (T:="tuple") (T':="tuple") mi mt (AA 0 rfl)) fun _=>B8 (q:=true) (Ws (bs:=(M.map sq).map fun _=>true) rfl ma (PX.cast (Er (Nc:=DZ) (caps:=HP) (l:=M.map sq) (f:=Ck 0) (fun _=>.bl true)
  (Bp (psc:=AF Cy) (PN:=Ek) (by decide +kernel) rfl rfl) rfl
  (FY (AA 0 rfl) ⟨rfl,rfl⟩)
  (fun C s' H' fp=>Af 0 (show DZ.Nodup by decide +kernel)) (BR rfl) (by rw[List.length_map];lia) ?_) (by rw[List.map_map,List.map_map,List.map_map];rfl))) fun _=>Ds (PX.cast (Ai FR (hr.mono (by lia)) (AB (AA 0 rfl) AE) ⟨M.map sq,rfl,by rw[List.length_map];exact hz,Yi M,rfl,rfl⟩) (by rw[(Xd M).mpr up]))) ?_
 ·intro C s' H' fp G2 d hd kn;obtain⟨q,_,rfl⟩:=List.mem_map.mp hd;exact⟨_,rfl,Ai FP hr (AB (AA 0 rfl) AE) ⟨q,rfl,rfl,rfl⟩⟩
 ·rw[show(((M.map sq).map fun _=>true).all id)=true by rw[List.all_map];exact List.all_eq_true.mpr fun _ _=>rfl];exact hR
theorem OR{N:Addr}(F:Fun K "heights" "heights" C8 f fd)(hN:mg "NotPlain"=some (.ref N))(xN:PySem.W.excIn K N [.type "ValueError",.type "Exception",.type "BaseException",.type "object"] "ValueError.__new__"=true)(FH:Df P w K mg base "holds_squares" B7 3 Mf)(FP:Df P w K mg base "is_plain" ES 5 (spF fun F=>.bl (Be F))):FnOk P w K mg base (CXV P w) 6 f fd CO (JC K (Uv N)):=by
 refine el (k:=5) F CV (fun ds G R RX h=>?_) (fun Aw A outer s H E ds G R RX hr h=>?_)
 ·obtain⟨M,d,rfl,_⟩:=h;rfl
 obtain⟨M,d,rfl,gd,hp,hX⟩:=h;have mY:=gd.len;refine ZO (b:=true) (PXT.cast (Mc (CL (B6 (Ai FH (hr.mono (by lia)) (AB (AA 0 rfl) AE) ⟨M,rfl,by lia,gd.up,rfl,rfl⟩))) (fun _=>JW (CL (B6 (Ai FP hr (AB (AA 0 rfl) AE) ⟨M,rfl,gd,rfl,rfl⟩))))).t (by rw[hp];rfl)) (fun _=>?_) (fun h=>absurd h (by decide)) rfl;exact Q3 rfl rfl xN PySem.F.excBase_ValueError hN (AB dG AE) (by simp) hX
end
end TF
namespace TF
open PySem PySem.Spec L2
open PyProof.Rows hiding St RelV
section
variable {P:Program}{w:World}{K:PySem.W.Frag}{mg:Str->Option Value}{base:Heap}{f:Addr}{fd:FuncData}
theorem PK(F:Fun K "is_light" "is_light" LD f fd):FnOk P w K mg base CX0 1 f fd HD (Al K SI):=by refine Bh (k:=0) F PJ (fun Aw A outer s H E ds G R hr h=>?_);obtain⟨q,rfl,hR⟩:=h;exact AS (GV (Cb (HA (AX (Ao (AA 0 rfl) AG rfl) (Ao (AA 0 rfl) AG rfl)) AG (by decide)) AG)) hR
theorem Mv(F:Fun K "ways_from" "ways_from" Iy f fd):FnOk P w K mg base CX0 1 f fd Fl (Al K Sj):=by
 refine Bh (k:=0) F BU (fun Aw A outer s H E ds G R hr h=>?_);obtain⟨q,rfl,hR⟩:=h;refine AV 1 BU.nd (Ao (AA 0 rfl) AG rfl) ?_;refine AV 2 BU.nd (Ao (AA 0 rfl) AG rfl) ?_;refine AV 3 BU.nd (AM (AB (Az (AA 1 rfl) AG) (AB (Az (AA 2 rfl) AG) AE))) ?_;refine AV 4 BU.nd (AM (AB (Az (AA 1 rfl) AG) (AB (AA 2 rfl) AE))) ?_;refine AV 5 BU.nd (AM (AB (AA 1 rfl) (AB (Az (AA 2 rfl) AG) AE))) ?_;refine AV 6 BU.nd (AM (AB (AA 1 rfl) (AB (AA 2 rfl) AE))) ?_;exact AS (By (AB (AM (AB (AM (AB (Az (AA 1 rfl) AG) (AB (AA 2 rfl) AE))) (AB (AA 3 rfl) (AB (AA 4 rfl) AE))))
  (AB (AM (AB (AM (AB (AA 1 rfl) (AB (Az (AA 2 rfl) AG) AE))) (AB (AA 5 rfl) (AB (AA 3 rfl) AE))))
  (AB (AM (AB (AM (AB (AA 1 rfl) (AB (AX (AA 2 rfl) AG) AE))) (AB (AA 4 rfl) (AB (AA 6 rfl) AE))))
  (AB (AM (AB (AM (AB (AX (AA 1 rfl) AG) (AB (AA 2 rfl) AE))) (AB (AA 6 rfl) (AB (AA 5 rfl) AE)))) AE))))) hR
theorem MT(F:Fun K "is_walked" "is_walked" De f fd)(mi:mg "min"=none)(ma:mg "max"=none):FnOk P w K mg base CX0 1 f fd FT (Al K N1):=by
 refine Bh (k:=0) F Nj (fun Aw A outer s H E ds G R hr h=>?_);obtain⟨q,l,a,b,rfl,hR⟩:=h;have hu:(A.deeper (envOfC "is_walked" (AF De) s.heap.objs.size f Aw)).units+20<cLine:=by have:=hr.units;lia
 have Sn:(A.deeper (envOfC "is_walked" (AF De) s.heap.objs.size f Aw)).units+9<cLine:=by lia
 unfold Lz at hR;refine BH (C6 (BK (A0 Sn (AA 2 rfl) (AA 0 rfl) (.inl rfl) (A5 a) (As q))) fun _=>D8 (BK (A0 Sn (AA 3 rfl) (AA 0 rfl) (.inl rfl) (A5 b) (As q)))).t (fun hp=>?_) (fun hp=>AK ?_)
 ·rw[BQ,BQ]at hp;simp only[Bool.and_eq_true,Bool.not_eq_true']at hp;rw[hp.1,hp.2]at hR;exact AS DV hR
 ·rw[BQ,BQ]at hp;have Se:(q.contains a||q.contains b)=true:=by
   cases h1:q.contains a<;>cases h2:q.contains b<;>rw[h1,h2]at hp<;>simp at hp ⊢
  rw[Se,Bool.true_and]at hR;refine AS (GV (A0 (d1:=Ay (El a b,Em a b)) Sn (AM (AB (Vz rfl hu mi (AA 2 rfl) (AA 3 rfl)) (AB (U3 rfl hu ma (AA 2 rfl) (AA 3 rfl)) AE))) (AA 1 rfl) (.inl rfl) (Cj _) (EZ l))) ?_;rw[IW];exact hR
theorem LR(F:Fun K "steps_from" "steps_from" Hd f fd)(FL:Df P w K mg base "is_light" HD 1 SI)(FW:Df P w K mg base "ways_from" Fl 1 Sj)(FK:Df P w K mg base "is_walked" FT 1 N1):FnOk P w K mg base CX0 2 f fd EG (Al K Ov):=by
 refine Bh (k:=1) F Dm (fun Aw A outer s H E ds G R hr h=>?_);obtain⟨q,l,c,rfl,hR⟩:=h;refine Dy 3 Dm.nd AE (fun p hp=>?_);refine BV (l:=(Iv c).map tri) (f:=Ys 4 5 6) (fun i ρ' G'=>(∃x4 x5 x6,ρ'=[some (fl q),some (lay l),some (sq c),some (.fn p),x4,x5,x6])/\G'=put G p (.lst (((((Iv c).take i).filter fun t=>Lz q l t.2.1 t.2.2).map fun t=>(t.1,sgn t.2.1)).map pi))) PassesOwn.never rfl
  (B5 (Ai FW hr (AB (AA 2 rfl) AE) ⟨c,rfl,_,rfl,rfl,⟨none,none,none,rfl⟩,by simp⟩)) (Rz 4 5 6 rfl Dm.nd) ?_ ?_
 ·rintro i dd ρ' G' hd ⟨⟨x4,x5,x6,rfl⟩,rfl⟩;rw[List.getElem?_map]at hd;obtain⟨t,ht,rfl⟩:=Option.map_eq_some_iff.mp hd;have hi:i<4:=(List.getElem?_eq_some_iff.mp ht).1;have et:(Iv c).take (i+1)=(Iv c).take i++[t]:=by rw[List.take_add_one,ht];rfl
  have AY:((((Iv c).take i).filter fun t=>Lz q l t.2.1 t.2.2).map fun t=>(t.1,sgn t.2.1)).length<=4:=by
   rw[List.length_map];exact Nat.le_trans (List.length_filter_le _ _) (by rw[List.length_take];lia)
  refine⟨_,rfl,?_⟩;refine BH (B6 (Ai FK hr (AB (AA 0 rfl) (AB (AA 1 rfl) (AB (AA 5 rfl) (AB (AA 6 rfl) AE)))) ⟨q,l,t.2.1,t.2.2,rfl,rfl,rfl⟩)) (fun hw=>?_) (fun hw=>AK (AK ?_))
  ·refine Bs (d:=pi (t.1,sgn t.2.1)) (AA 3 rfl) (AM (AB (AA 4 rfl) (AB (Ww (B6 (Ai FL hr (AB (AA 5 rfl) AE) ⟨t.2.1,rfl,rfl,rfl⟩)) (fun hl=>PX.cast AG ?_) (fun hl=>PX.cast (Eb AG) ?_)) AE))) AI (by rw[List.length_map];exact sz1 (by lia)) (AK (AK ⟨⟨_,_,_,rfl⟩,?_⟩))
   ·unfold sgn;rw[if_pos (by simpa using hl)]
   ·unfold sgn;rw[if_neg (by simpa using hl)]
   ·rw[A3,et,List.filter_append,List.map_append,List.map_append];rw[List.filter_cons_of_pos (by simpa using hw)];rfl
  ·refine⟨⟨_,_,_,rfl⟩,?_⟩;rw[et,List.filter_append,List.filter_cons_of_neg (by simpa using hw)];simp
 ·rintro ρ' G' ⟨⟨x4,x5,x6,rfl⟩,rfl⟩;rw[List.length_map,List.take_of_length_le (Nat.le_refl _)];refine N0 (AA 3 rfl) AI ?_;rw[BG hp];exact hR
end
end TF
namespace TF
open PySem PySem.Spec L2
open PyProof.Rows hiding St RelV
section
variable {P:Program}{w:World}{K:PySem.W.Frag}{mg:Str->Option Value}{base:Heap}{f:Addr}{fd:FuncData}
theorem Ta(F:Fun K "fewest_turns" "fewest_turns" Bj f fd)(mz:mg "zip"=none)(ma:mg "abs"=none)(ms:mg "sum"=none)(FH:Df P w K mg base "heights" CO 6 bS):FnOk P w K mg base CX0 7 f fd Bm (Al K Z0):=by
 refine Bh (k:=6) F Cs (fun Aw A outer s H E ds G R hr h=>?_);obtain⟨q,l,m,h,rfl,pl,hp,I,J,hR⟩:=h;have hl:=HI q;refine KL 3 (Nc:=CY) (caps:=Du) (l:=Ec ((htL h q l).map pi) ((htL h q m).map pi)) (f:=Ej 0 1) dif Cs.nd
  (Bp (psc:=AF Bj) (PN:=DD) (by decide +kernel) rfl rfl) rfl
  (RO mz (Ai FH hr (AB (AA 0 rfl) (AB (AA 1 rfl) AE)) ⟨q,l,h,rfl,pl,hp,I,rfl,rfl⟩) (Ai FH hr (AB (AA 0 rfl) (AB (AA 2 rfl) AE)) ⟨q,m,h,rfl,pl,hp,J,rfl,rfl⟩) ⟨rfl,rfl⟩)
  (fun C s' H' fp=>Cr 0 1 rfl (show CY.Nodup by decide +kernel)) (Jm rfl rfl) (by rw[K7,List.length_map];lia) ?_ ?_
 ·intro C s' H' fp G2 d hd kn;rw[K7]at hd;obtain⟨y,_,rfl⟩:=List.mem_map.mp hd;exact⟨_,rfl,Vt ma (Az (Ao (AA 0 rfl) AG rfl) (Ao (AA 1 rfl) AG rfl))⟩
 ·rw[V4 pl I J];refine AS (PX.cast (Ng (Vq rfl ms (AA 3 rfl)) AG ⟨by decide,by decide⟩) ?_) hR;rw[Uh];congr 1
theorem QR{N:Addr}(F:Fun K "fewest_turns" "fewest_turns" Bj f fd)(mz:mg "zip"=none)(FH:DfX P w K mg base "heights" CO 6 (Uv N)):FnOk P w K mg base (CXV P w) 7 f fd Bm (JC K (Vi N)):=by
 refine fL (k:=6) F Cs (fun ds G R RX h=>?_) (fun Aw A outer s H E ds G R RX hr h=>?_)
 ·obtain⟨q,d,e,rfl,_⟩:=h;rfl
 obtain⟨q,d,e,rfl,gd,hp,hX⟩:=h;exact LY (Nc:=CY) (caps:=Du) (Bp (psc:=AF Bj) (PN:=DD) (by decide +kernel) rfl rfl)
  (WC mz (Ql rfl FH hr (AB (AA 0 rfl) (AB (AA 1 rfl) AE)) ⟨q,d,rfl,gd,hp,hX⟩))
theorem PU{N D:Addr}(F:Fun K "_law_told" "_law_told" Jy f fd)(mi:mg "isinstance"=none)(mV:mg "ValueError"=none)(hN:mg "NotPlain"=some (.ref N))(hD:mg "FloorError"=some (.ref D))(xN:PySem.W.excIn K N [.type "ValueError",.type "Exception",.type "BaseException",.type "object"] "ValueError.__new__"=true)(xD:PySem.W.excIn K D [.type "ValueError",.type "Exception",.type "BaseException",.type "object"] "ValueError.__new__"=true)(u:EI K N D=true)(FH:DfX P w K mg base "heights" CO 6 (Uv N))(FW:DfX P w K mg base "fewest_turns" Bm 7 (Vi N)):FnOk P w K mg base CX0 8 f fd Gp (Al K RY):=by refine Bh (k:=7) F JJ (fun Aw A outer s H E ds G R hr h=>?_);obtain⟨q,l,k,rfl,gd,hp,hk,hR⟩:=h;refine WL (RX:=fun cls G'=>cls=.ref N/\G=G') 3 rfl rfl JJ.nd (W6 (BK (Cb (AA 2 rfl) AG)) (fun _=>Ki (Ql rfl FH (hr.mono (by lia)) (AB (AA 0 rfl) (AB (AA 1 rfl) AE)) ⟨q,lay l,rfl,gd,hp,rfl,rfl⟩)) (fun _=>Ki (Ql rfl FW hr (AB (AA 0 rfl) (AB (AA 1 rfl) (AB (AA 1 rfl) AE))) ⟨q,lay l,lay l,rfl,gd,hp,rfl,rfl⟩)) rfl) xD PySem.F.excBase_ValueError hD ?_;rintro cls G' ⟨rfl,rfl⟩;refine⟨N,_,_,rfl,xN,u,fun ea oe hc=>?_⟩;exact AS (By (AB (Yj hc (List.mem_cons_self ..) mi hN (AA 3 rfl)) (AB (Yr hc (List.mem_cons_self ..) xN (by decide) mi mV (AA 3 rfl)) AE))) hR
theorem Md(F:Fun K "_law_whole" "_law_whole" Iu f fd)(mi:mg "isinstance"=none)(mn:mg "int"=none)(mb:mg "bool"=none):FnOk P w K mg base CX0 1 f fd FV (Al K OC):=by refine Bh (k:=0) F M4 (fun Aw A outer s H E ds G R hr h=>?_);obtain⟨i,rfl,hR⟩:=h;refine AS (B8 (Gz (T:="int") (T':="int") mi mn (AA 0 rfl)) fun _=>Ds (Mq (Gz (T:="bool") (T':="bool") mi mb (AA 0 rfl)))) ?_;exact hR
theorem Mm(F:Fun K "_law_sides" "_law_sides" JH f fd):FnOk P w K mg base CX0 1 f fd E9 (Al K Rq):=by
 refine Bh (k:=0) F ET (fun Aw A outer s H E ds G R hr h=>?_);obtain⟨x,rfl,hR⟩:=h;refine Jk (f:=Ej 1 2) (Cr 1 2 rfl ET.nd) (AA 0 rfl) rfl ?_;refine AV 3 ET.nd (By (AB (AM (AB (AM (AB (AA 1 rfl) (AB (AA 2 rfl) AE))) (AB (AM (AB (AX (AA 1 rfl) AG) (AB (AA 2 rfl) AE))) (AB (AM (AB (AA 1 rfl) (AB (Az (AA 2 rfl) AG) AE))) AE))))
  (AB (AM (AB (AM (AB (AX (AA 1 rfl) AG) (AB (AA 2 rfl) AE))) (AB (AM (AB (AX (AA 1 rfl) AG) (AB (AX (AA 2 rfl) AG) AE))) (AB (AM (AB (AX (AA 1 rfl) AG) (AB (AA 2 rfl) AE))) AE)))) AE))) ?_
 refine AS (Kt (AA 3 rfl) (By (AB (AM (AB (AM (AB (AX (AA 1 rfl) AG) (AB (AX (AA 2 rfl) AG) AE))) (AB (AM (AB (AA 1 rfl) (AB (AX (AA 2 rfl) AG) AE))) (AB (AM (AB (AA 1 rfl) (AB (AX (AA 2 rfl) AG) AE))) AE))))
  (AB (AM (AB (AM (AB (AA 1 rfl) (AB (AX (AA 2 rfl) AG) AE))) (AB (AM (AB (AA 1 rfl) (AB (AA 2 rfl) AE))) (AB (AM (AB (Az (AA 1 rfl) AG) (AB (AA 2 rfl) AE))) AE)))) AE))) (sz (show 4<=5000 by decide))) hR
end
theorem Ho{α:Type}{us:List α}(h:us.length=1):∃a,us=[a]:=by
 cases us with
 |nil=>simp at h
 |cons a us=>
 cases us with
 |nil=>exact⟨a,rfl⟩
 |cons z us=>simp at h;try lia
theorem Ha{α:Type}{us:List α}(h:us.length=2):∃a b,us=[a,b]:=by
 cases us with
 |nil=>simp at h
 |cons a us=>
 cases us with
 |nil=>simp at h
 |cons b us=>
 cases us with
 |nil=>exact⟨a,b,rfl⟩
 |cons z us=>simp at h;try lia
theorem Hl{α:Type}{us:List α}(h:us.length=3):∃a b c,us=[a,b,c]:=by
 cases us with
 |nil=>simp at h
 |cons a us=>
 cases us with
 |nil=>simp at h
 |cons b us=>
 cases us with
 |nil=>simp at h
 |cons c us=>
 cases us with
 |nil=>exact⟨a,b,c,rfl⟩
 |cons z us=>simp at h;try lia
theorem Hy{α:Type}{us:List α}(h:us.length=4):∃a b c d,us=[a,b,c,d]:=by
 cases us with
 |nil=>simp at h
 |cons a us=>
 cases us with
 |nil=>simp at h
 |cons b us=>
 cases us with
 |nil=>simp at h
 |cons c us=>
 cases us with
 |nil=>simp at h
 |cons d us=>
 cases us with
 |nil=>exact⟨a,b,c,d,rfl⟩
 |cons z us=>simp at h;try lia
theorem aL{β:Type}{a:Nat}{b:β}:∀{l:List (Nat×β)},(l.map (·.1)).Nodup->(a,b)∈l->l.lookup a=some b
 |p::l,nd,h=>by
  obtain⟨n1,n2⟩:=List.nodup_cons.mp nd;obtain⟨c,d⟩:=p;rcases List.mem_cons.mp h with e|h2
  ·cases e;simp
  ·have Bq:(a==c)=false:=by
    rw[beq_eq_false_iff_ne];intro e;subst e;exact n1 (List.mem_map.mpr ⟨(a,b),h2,rfl⟩)
   rw[List.lookup_cons,Bq];exact aL n2 h2
theorem hl_ok(w:World)(p:Str×Nat×Nat×Value)(hm:p∈hT):(hK w).lookup p.2.2.1=some (hF p).2:=by show List.lookup _ (hT.map hF++_)=_;rw[List.lookup_append,aL (b:=(hF p).2) (by decide +kernel) (List.mem_map.mpr ⟨p,hm,rfl⟩)];rfl
section
variable {K:PySem.W.Frag}{h:Heap}{mg:Str->Option Value}
theorem hG(hb:hB K=true)(hl:∀p∈hT,K.lookup p.2.2.1=some (hF p).2)(X:K.In h)(G:h.Ns mainGlobals mg)(i:Nat){u:Str}{k f:Nat}{m:Value}(e:hT[i]?=some (u,k,f,m)):Fun K u u (top k) f (hD (u,k,f,m))/\mg u=some (.ref f):=by have hm:=List.mem_of_getElem? e;unfold hB at hb;have a:=List.all_eq_true.mp (Bool.and_eq_true_iff.mp hb).1 _ hm;simp only[Bool.and_eq_true,beq_iff_eq]at a;have l:K.lookup f=some ⟨.type "function",none,.func (PySem.W.fnOf u u (C3 (top k)) (BM (top k)) (AF (top k)) .none .none .none m none (.ref (f-1)) .none),#[]⟩:=hl _ hm;exact⟨bM l a.1.2 a.2,PySem.W.mg_of X G a.1.1⟩
theorem hZ(hb:hB K=true)(X:K.In h)(G:h.Ns mainGlobals mg)(i:Nat){x:Str}(e:hZs[i]?=some x):mg x=none:=by unfold hB at hb;simp only[Bool.and_eq_true]at hb;exact PySem.W.mg_none_of X G (beq_iff_eq.mp (List.all_eq_true.mp hb.2.1 _ (List.mem_of_getElem? e)))
theorem hI(hb:hB K=true)(X:K.In h)(G:h.Ns mainGlobals mg)(i:Nat){x:Str}{v:Value}(e:hIs[i]?=some (x,v)):mg x=some v:=by unfold hB at hb;simp only[Bool.and_eq_true]at hb;exact PySem.W.mg_of X G (beq_iff_eq.mp (List.all_eq_true.mp hb.2.2.1 _ (List.mem_of_getElem? e)))
theorem hX(hb:hB K=true)(X:K.In h)(G:h.Ns mainGlobals mg)(i:Nat){x:Str}{a:Nat}(e:hCs[i]?=some (x,a)):mg x=some (.ref a)/\PySem.W.excIn K a [.type "ValueError",.type "Exception",.type "BaseException",.type "object"] "ValueError.__new__"=true:=by unfold hB at hb;simp only[Bool.and_eq_true]at hb;have a:=List.all_eq_true.mp hb.2.2.2.1 _ (List.mem_of_getElem? e);simp only[Bool.and_eq_true,beq_iff_eq]at a;exact⟨PySem.W.mg_of X G a.1,a.2⟩
theorem hU(hb:hB K=true)(i:Nat){a b:Nat}(e:hUs[i]?=some (a,b)):EI K a b=true:=by unfold hB at hb;simp only[Bool.and_eq_true]at hb;exact List.all_eq_true.mp hb.2.2.2.2.1 _ (List.mem_of_getElem? e)
end
section
variable (P:Program)(w:World)(K:PySem.W.Frag)(mg:Str->Option Value)(base:Heap){x:Str}{st:Stmt}{f:Addr}{fd:FuncData}{ps:List Str}{n:Nat}
theorem mkD{S:SpD}(F:Fun K x x st f fd/\mg x=some (.ref f))(o:FnOk P w K mg base CX0 n f fd ps (Al K S))(b:∀(kV doc pm:Value)(an:Option Addr)(Aw ct:Value)(us:List Value),us.length=ps.length->bindArgs (PySem.W.fnOf x x (C3 st) (BM st) (AF st) .none kV doc pm an Aw ct) ⟨us,[]⟩=pure (ps.zip us):=by intro _ _ _ _ _ _ us hl;first|(obtain⟨_,rfl⟩:=Ho hl;rfl)|(obtain⟨_,_,rfl⟩:=Ha hl;rfl)|(obtain⟨_,_,_,rfl⟩:=Hl hl;rfl)|(obtain⟨_,_,_,_,rfl⟩:=Hy hl;rfl)):Df P w K mg base x ps n S:=⟨f,fd,o,F.2,F.1.kp,F.1.binds b⟩
theorem mkX{S:SpX}(F:Fun K x x st f fd/\mg x=some (.ref f))(o:FnOk P w K mg base (CXV P w) n f fd ps (JC K S))(b:∀(kV doc pm:Value)(an:Option Addr)(Aw ct:Value)(us:List Value),us.length=ps.length->bindArgs (PySem.W.fnOf x x (C3 st) (BM st) (AF st) .none kV doc pm an Aw ct) ⟨us,[]⟩=pure (ps.zip us):=by intro _ _ _ _ _ _ us hl;first|(obtain⟨_,rfl⟩:=Ho hl;rfl)|(obtain⟨_,_,rfl⟩:=Ha hl;rfl)|(obtain⟨_,_,_,rfl⟩:=Hl hl;rfl)|(obtain⟨_,_,_,_,rfl⟩:=Hy hl;rfl)):DfX P w K mg base x ps n S:=⟨f,fd,o,F.2,F.1.kp,F.1.binds b⟩
theorem mkA{S:SpD}(F:Fun K x x st f fd/\mg x=some (.ref f))(o:FnOk P w K mg base CX0 n f fd ps (Al K S))(b:∀(kV doc pm:Value)(an:Option Addr)(Aw ct:Value)(us:List Value),us.length=ps.length->bindArgs (PySem.W.fnOf x x (C3 st) (BM st) (AF st) .none kV doc pm an Aw ct) ⟨us,[]⟩=pure (ps.zip us):=by intro _ _ _ _ _ _ us hl;first|(obtain⟨_,rfl⟩:=Ho hl;rfl)|(obtain⟨_,_,rfl⟩:=Ha hl;rfl)|(obtain⟨_,_,_,rfl⟩:=Hl hl;rfl)|(obtain⟨_,_,_,_,rfl⟩:=Hy hl;rfl)):∃f,mg x=some (.ref f)/\DfA P w K mg base f ps n S:=⟨f,F.2,fd,o,F.1.kp,F.1.binds b⟩
end
theorem all_mk{l:PySem.W.OpenLaw}{w:World}{K:PySem.W.Frag}{h:Heap}{mg:Str->Option Value}{fa:Addr}(hb:hB K=true)(hl:∀p∈hT,K.lookup p.2.2.1=some (hF p).2)(X:K.In h)(G:h.Ns mainGlobals mg)(qH:mg "law"=some (.ref fa)) :
  ∃fd:FuncData,(∀(s:Shared)(v:Value),BindsTo s fd ⟨[v],[]⟩ [("_law_script",v)])/\∀base:Heap,K.In base->base.Ns mainGlobals mg->FnOk l.prog w K mg base CX0 16 fa fd ["_law_script"] (Al K Na):=by
 have F0:=hG hb hl X G 0 rfl;have F1:=hG hb hl X G 1 rfl;have F2:=hG hb hl X G 2 rfl;have F3:=hG hb hl X G 3 rfl;have F4:=hG hb hl X G 4 rfl;have F5:=hG hb hl X G 5 rfl;have F6:=hG hb hl X G 6 rfl;have F7:=hG hb hl X G 7 rfl;have F8:=hG hb hl X G 8 rfl;have F9:=hG hb hl X G 9 rfl;have nc:=hG hb hl X G 10 rfl;have nU:=hG hb hl X G 11 rfl;have lp:=hG hb hl X G 12 rfl;have lz:=hG hb hl X G 13 rfl;have oE:=hG hb hl X G 14 rfl;have nM:=hG hb hl X G 15 rfl;have nX:=hG hb hl X G 16 rfl;have mS:=hG hb hl X G 17 rfl;have m6:=hG hb hl X G 18 rfl;have iJ:=hG hb hl X G 19 rfl;have gu:=hG hb hl X G 20 rfl;have nV:=hG hb hl X G 21 rfl;have lX:=hG hb hl X G 22 rfl;have nH:=hG hb hl X G 23 rfl;have lj:=hG hb hl X G 24 rfl;have ae:=hG hb hl X G 25 rfl;have oB:=hG hb hl X G 26 rfl;have m9:=hG hb hl X G 27 rfl;have mG:=hG hb hl X G 28 rfl;have mj:=hG hb hl X G 29 rfl;have l8:=hG hb hl X G 30 rfl;have nP:=hG hb hl X G 31 rfl;have nv:=hG hb hl X G 32 rfl;have l6:=hG hb hl X G 33 rfl;have lT:=hG hb hl X G 34 rfl;have mf:=hG hb hl X G 35 rfl;have Eh:=hZ hb X G 0 rfl;have NX:=hZ hb X G 1 rfl;have Ui:=hZ hb X G 2 rfl;have W9:=hZ hb X G 3 rfl;have GP:=hZ hb X G 4 rfl;have Wj:=hZ hb X G 5 rfl;have K2:=hZ hb X G 6 rfl;have Bw:=hZ hb X G 7 rfl;have Vf:=hZ hb X G 8 rfl;have aR:=hZ hb X G 9 rfl;have XX:=hZ hb X G 10 rfl;have aK:=hZ hb X G 11 rfl;have SS:=hZ hb X G 12 rfl;have Zp:=hZ hb X G 13 rfl;have XZ:=hZ hb X G 14 rfl;have en:=hZ hb X G 15 rfl;have MX:=hZ hb X G 16 rfl;obtain⟨LG,K0⟩:=hX hb X G 0 rfl;obtain⟨NA,NZ⟩:=hX hb X G 1 rfl;have Eo:=hU hb 0 rfl;have e:=qH.symm.trans mf.2;cases e;refine⟨hD (hR "law" 41 267 hM2),fun s v=>.of_eq rfl,fun base _ _=>?_⟩;have mD:=@mkD l.prog w K mg base;have mX:=@mkX l.prog w K mg base;have Hr:=mD F0 (Gi F0.1);have ND:=mkA l.prog w K mg base F0 (Gi F0.1);have B0:=mD F1 (Ez F1.1);have Y8:=mD F2 (Ge F2.1 Hr B0);have NR:=mkA l.prog w K mg base F2 (Ge F2.1 Hr B0);have QD:=mD F3 (KS 1 F3.1 Eh);have Qt:=mD F3 (KS 2 F3.1 Eh);have IZ:=mD F4 (HG F4.1 Eh QD ND);have Jn:=mD F5 (JQ F5.1 NX Ui W9);have Qg:=mD F6 (N8 F6.1 Eh Jn Qt NR);have cG:=mD F7 (D4 F7.1);have HR:=mD F8 (Gx F8.1 cG B0);have J5:=mD F9 (Oe F9.1 Eh IZ Qg HR);have Wv:=mD nc (Ms nc.1 Bw aR XX);have Xu:=mD nU (Q8 nU.1 Bw GP Eh);have Zb:=mD lp (Nr lp.1 Xu Wv);have WB:=mD lz (M6 lz.1 aK SS);have Rw:=mD oE (Ih oE.1 Bw GP aK Zb WB);have Zh:=mD nM (PK nM.1);have X7:=mD nX (Mv nX.1);have WG:=mD mS (MT mS.1 Ui W9);have VM:=mD m6 (LR m6.1 Zh X7 WG);have Li:=mD iJ (Q7 iJ.1 Eh Vf XZ K2 Rw J5 VM);have fz:=mD gu (Ta gu.1 SS Zp Wj Li);have MB:=mX iJ (OR iJ.1 LG K0 Rw J5);have eI:=mX gu (QR gu.1 SS MB);have Kr:=mD nV (OV nV.1 Eh);have T6:=mD lX (Qn lX.1);have Nm:=mD nH (NQ nH.1 Eh NX GP W9 Ui Kr T6);have G0:=mD lj (O4 lj.1);have Nv:∀n,Df l.prog w K mg base "_law_every" Bk (n+2) (Jh n):=by
  intro n
  induction n with
  |zero=>exact⟨_,_,Hi 0 ae.1 GP G0 (fun m h=>by cases h),ae.2,ae.1.kp,ae.1.binds (ps:=Bk) (by intro _ _ _ _ _ _ us hl;first|(obtain⟨_,rfl⟩:=Ho hl;rfl)|(obtain⟨_,_,rfl⟩:=Ha hl;rfl)|(obtain⟨_,_,_,rfl⟩:=Hl hl;rfl)|(obtain⟨_,_,_,_,rfl⟩:=Hy hl;rfl))⟩
  |succ m ih=>exact⟨_,_,Hi (m+1) ae.1 GP G0 (fun m' h=>by cases h;exact ih),ae.2,ae.1.kp,ae.1.binds (ps:=Bk) (by intro _ _ _ _ _ _ us hl;first|(obtain⟨_,rfl⟩:=Ho hl;rfl)|(obtain⟨_,_,rfl⟩:=Ha hl;rfl)|(obtain⟨_,_,_,rfl⟩:=Hl hl;rfl)|(obtain⟨_,_,_,_,rfl⟩:=Hy hl;rfl))⟩
 have UW:=mD oB (QJ oB.1 GP K2 (Nv 12));have OX:=mD m9 (Mj m9.1 Eh G0);have LL:=mD mG (J3 mG.1 Eh NX);have Kf:=mD mj (JL mj.1);have PF:=mD l8 (Nf l8.1 OX LL Kf);have bX:=mD nP (PU nP.1 Bw MX LG NA K0 NZ Eo MB eI);have ZR:=mD nv (Md nv.1 Bw aR XX);have Y7:=mD l6 (Mm l6.1);have a7:=mD lT (Ou lT.1 XZ Wj K2 en Y7);exact cB mf.1 Bw Vf Eh Wj SS Zp Nm Kr UW PF bX ZR a7 Li fz
theorem walk{l:PySem.W.OpenLaw}{q:Program}{loose:List Str}{XP:(Str->Option Value)->Heap->Prop}{YP:World->Heap->Prop}{d:DefRec}{K:Params->PySem.W.Frag}(hn:l.most=some 63)(d6:d.params.defaults=[])(hY:∀(w:World)(h:Heap),YP w h->(K w.params).In h)(F:∀(w:World)(mg:Str->Option Value)(fa:Addr)(h:Heap),(K w.params).In h->h.Ns mainGlobals mg->mg d.name=some (.ref fa) →
   ∃fd:FuncData,(∀(s:Shared)(u:Value),BindsTo s fd ⟨[u],[]⟩ [("_law_script",u)])/\∀base:Heap,(K w.params).In base->base.Ns mainGlobals mg->FnOk l.prog w (K w.params) mg base CX0 16 fa fd ["_law_script"] (Al (K w.params) Na)) :
  PySem.W.WalkO q loose XP YP l.row.toRowW d [] (fun f vs=>PySem.call f vs):=
 L2.walk_of (n:=63) (k:=16) (x:="_law_script") (CX:=fun _=>CX0) (sp:=fun w=>Al (K w.params) Na) hn (by decide) d6 ⟨rfl,by decide,by decide⟩ hY F
  (fun w H a ns hl _ hS=>⟨[.scr ns],g0,fun d _=>d=.bl true,fD,RepL.cons (by rw[dD,Rep];exact⟨a,rfl,hS⟩) RepL.nil,⟨ns,rfl,rfl⟩,fun v H' d G' _ _ r q=>by
   subst q;rw[Rep]at r;exact r⟩) fun _ _ _ _ _ z=>z
end TF
open PySem PySem.W PyProof.Rows
set_option maxRecDepth 100000 in
set_option maxHeartbeats 0 in
theorem PySem.Challenge.cw_tilefloor_k11_heights_holds : PySem.Challenge.rw_tilefloor_k11_heights.Holds := by
 refine holds_law (by kernel_rfl) fun jj=>?_
 refine PySem.W.holds_open (q:=TF.hQ) (loose:=[]) (Xt:=TF.hXt) (XP:=XL TF.hQ []) (Yf:=fun s=>TF.hAs.map s.heap.get?) (Ya:=fun w=>(TF.hK w).map fun p=>some p.2) (YP:=fun w h=>(TF.hK w).In h) (N:=3108) TF.hLeft (fun w s x=>Frag.in_of (TF.hAs_ok w) x) (fun w h h' x k=>Frag.In.keeps x k) (fun s e=>xl_of s (Bool.and_eq_true_iff.mp e).1) XL.keeps (by rfl) (by rfl) (by rfl) (fun s e=>recFacts_of (Bool.and_eq_true_iff.mp e).2) (by rfl) jj (by decide +kernel) ⟨rfl,rfl,rfl,rfl,rfl,by decide +kernel⟩ ?hw ?hc
 case hw=>w_witness2
 case hc=>
  intro w₀ s₀ s₁ mg mb G Y
  refine TF.walk (l:=PySem.Challenge.rw_tilefloor_k11_heights) (K:=fun _=>TF.hK w₀) (YP:=fun _ h=>(TF.hK w₀).In h) rfl rfl (fun w h Y=>Y) ?F w₀ s₀ s₁ mg mb G Y
  clear Y G mg mb
  intro w mg fa h KX G Qx
  exact TF.all_mk (TF.hB_ok w₀) (TF.hl_ok w₀) KX G Qx
