import PyProof.Rows.All
import Wide.All
import OpenK.AllK
import Wide.FinOn
import Lean
import PyProof.EqAt
import PyProof.EqKinds
import PyProof.TupleCall
import PyProof.NeKinds
import PyProof.Rows.SortRuns
import KE.KSortTup
import PySem.SetOps
import PyProof.SetScanFacts
import PyProof.SetKind
import PyProof.TupleKey
import PyProof.Rows.SetFrom
import PyProof.DictIter
import PyProof.FactsAll.set
import PyProof.CollectWalk
import PyProof.SetRoads
import PyProof.Draws
import PyProof.EnumMake
import PyProof.EnumFor
import PyProof.StrLoop
import PyProof.StrCalls2
import PyProof.StrLawsTight
import PyProof.StrLawsJoin
import PyProof.DictWalks
import PyProof.WalkInts
import PyProof.Rows.CallKwBuiltin
import KE.KMinBuiltin
import PyProof.FitsReplace
import PyProof.StrLawsChain
import PyProof.SumWalkG
import PyProof.WalksMore
import PyProof.StationsW
import PyProof.RulesTry
import PyProof.RulesAs
import PyProof.Rows.Catch
import PyProof.IsInstance
import PyProof.FString
import PyProof.ExcBaseAll.ValueError
import PyProof.MinMaxWalk
import PyProof.Rows.Range3
import PyProof.ConsumeWalk
import PyProof.ZipIter
import PyProof.Rows.ZipGen
import PyProof.ListMulRoad
import PyProof.ExcClass2
import KE.KRevIter
import PyProof.CollectIter
import PyProof.FactsAll.subtypes_4
import PyProof.StrBlockI
import PyProof.StrOps2
import PySem.Challenge.RW_tilefloor_k14_spoilt_texts
noncomputable section
set_option maxHeartbeats 4000000
set_option bootstrap.genMatcherCode false
set_option genSizeOf false
set_option Elab.async false
set_option linter.all false
set_option maxRecDepth 100000
namespace L2
open PySem PySem.Spec PyProof.Rows
abbrev Key:=Sum Int Str
def Yv:Key->Value->Bool
 |.inl k,v=>Value.isInt k v
 |.inr x,v=>Value.isStrOf x v
def lJ (w:World):Key->Int
 |.inl k=>hashInt k
 |.inr x=>hashStr w x
theorem BG:∀{k:Key} {v:Value},Yv k v=true->(∃i t,k=Sum.inl i/\v=Value.int i t)\/(∃x t,k=Sum.inr x/\v=Value.str x t)
 |.inl i,v,h=>by
  obtain ⟨t,e⟩:=Value.isInt_shape (k:=i) (v:=v) h
  exact .inl ⟨i,t,rfl,e⟩
 |.inr x,v,h=>by
  obtain ⟨t,e⟩:=Value.isStrOf_shape (x:=x) (v:=v) h
  exact .inr ⟨x,t,rfl,e⟩
theorem bJ (a b:Int):decide ((Sum.inl a:Key)=Sum.inl b)=(a==b):=by
 by_cases e:a=b
 ·subst e;simp
 ·have h:¬(Sum.inl a:Key)=Sum.inl b:=fun q=>e (Sum.inl.inj q)
  rw [decide_eq_false h]
  exact (beq_eq_false_iff_ne.mpr e).symm
theorem bQ (a b:Str):decide ((Sum.inr a:Key)=Sum.inr b)=decide (a=b):=by
 by_cases e:a=b
 ·subst e;simp
 ·have h:¬(Sum.inr a:Key)=Sum.inr b:=fun q=>e (Sum.inr.inj q)
  rw [decide_eq_false h,decide_eq_false e]
theorem aM (a:Int) (b:Str):decide ((Sum.inl a:Key)=Sum.inr b)=false:=decide_eq_false (fun q=>nomatch q)
theorem aR (a:Str) (b:Int):decide ((Sum.inr a:Key)=Sum.inl b)=false:=decide_eq_false (fun q=>nomatch q)
def NN (prog:Program) (w:World):PySem.KeyKind prog w Key where
 is:=Yv
 hash:=lJ w
 inj:=fun v a b ha hb=>by
  rcases BG ha with ⟨i,t,rfl,rfl⟩|⟨x,t,rfl,rfl⟩
  ·rcases BG hb with ⟨j,u,rfl,e⟩|⟨y,u,rfl,e⟩
   ·injection e with e1 _;rw [e1]
   ·exact nomatch e
  ·rcases BG hb with ⟨j,u,rfl,e⟩|⟨y,u,rfl,e⟩
   ·exact nomatch e
   ·injection e with e1 _;rw [e1]
 byValue:=fun k v h=>by
  rcases BG h with ⟨i,t,rfl,rfl⟩|⟨x,t,rfl,rfl⟩<;>rfl
 pyHash:=fun hv h=>by
  rcases BG hv with ⟨i,t,rfl,rfl⟩|⟨x,t,rfl,rfl⟩
  ·exact wpAny_pyHash_int h
  ·exact wpAny_pyHash_str h
 eqBool:=fun hu hv h=>by
  rcases BG hu with ⟨i,t,rfl,rfl⟩|⟨x,t,rfl,rfl⟩
  ·rcases BG hv with ⟨j,u,rfl,rfl⟩|⟨y,u,rfl,rfl⟩
   ·rw [bJ]at h;exact wpAny_eqBool_int h
   ·rw [aM]at h;exact SeqAt.EqAt.int_str i t y u _ _ _ _ h
  ·rcases BG hv with ⟨j,u,rfl,rfl⟩|⟨y,u,rfl,rfl⟩
   ·rw [aR]at h;exact SeqAt.EqAt.str_int x t j u _ _ _ _ h
   ·rw [bQ]at h;exact wpAny_eqBool_str h
 «strs»:=fun k x t v h=>by
  rcases BG h with ⟨i,u,rfl,e⟩|⟨y,u,rfl,e⟩
  ·exact nomatch e
  ·injection e with e1 _
   subst e1
   cases v<;>rfl
inductive V where
 |non|bl (b:Bool)|int (i:Int)|str (x:Str)|byt (b:Array UInt8)|flt (b:UInt64)|ref (a:Addr)|ty (n:String)
 deriving DecidableEq
def RelV:V->Value->Prop
 |.non,u=>u=Value.none
 |.bl b,u=>u=Value.bool b
 |.int i,u=>∃t,u=Value.int i t
 |.str x,u=>∃t,u=Value.str x t
 |.byt b,u=>∃t,u=Value.bytes b t
 |.flt b,u=>∃t,u=Value.float b t
 |.ref a,u=>u=Value.ref a
 |.ty n,u=>u=Value.type n
abbrev Vals:List V->List Value->Prop:=Paired RelV
theorem Vals.length {xs:List V} {us:List Value} (r:Vals xs us):xs.length=us.length:=Paired.length r
theorem Vals.get:∀{xs:List V} {us:List Value} {i:Nat} {x:V},Vals xs us->xs[i]?=some x->∃u,us[i]?=some u/\RelV x u
 |_,_,_,_,.nil,e=>by simp at e
 |_,_,0,_,.cons r _,e=>by simp at e;subst e;exact ⟨_,rfl,r⟩
 |_,_,i+1,x,.cons _ t,e=>by
  obtain ⟨u,h1,h2⟩:=Vals.get (i:=i) (x:=x) t (by simpa using e)
  exact ⟨u,by simpa using h1,h2⟩
theorem Vals.append:∀{xs ys:List V} {us ws:List Value},Vals xs us->Vals ys ws->Vals (xs++ys) (us++ws)
 |_,_,_,_,.nil,s=>s
 |_,_,_,_,.cons r t,s=>.cons r (Vals.append t s)
theorem Vals.take:∀{xs:List V} {us:List Value} (n:Nat),Vals xs us->Vals (xs.take n) (us.take n)
 |_,_,0,_=>.nil
 |_,_,_+1,.nil=>.nil
 |_,_,n+1,.cons r t=>.cons r (Vals.take n t)
theorem Vals.drop:∀{xs:List V} {us:List Value} (n:Nat),Vals xs us->Vals (xs.drop n) (us.drop n)
 |_,_,0,r=>r
 |_,_,_+1,.nil=>.nil
 |_,_,n+1,.cons _ t=>Vals.drop n t
def Z9:Option V->Option Value->Prop
 |some v,some u=>RelV v u
 |none,none=>True
 |_,_=>False
def KV {κ:Type}:List (κ×V)->List (κ×Value)->Prop:=Paired fun (p:κ×V) (q:κ×Value)=>p.1=q.1/\RelV p.2 q.2
def kV:Key->V
 |.inl i=>.int i
 |.inr x=>.str x
inductive HO where
  |lst (xs:List V)
  |tup (xs:List V)
  |dK (kvs:List (Key×V))|dT (kvs:List (List Key×V))
  |set (S:Int->Bool) (n:Nat)
  |ins (C dx:Addr) (fs:List (Str×V))
  |own (x:Addr)
  |xd (fs:List (Str×V))
  |met (f x:Addr)
  |rng (lo hi:Int)
  |frz (o:Obj) (u:HO)
  |tbl (ps:Array Value)
  |ext (φ:Heap->Prop)
abbrev Hp:=Addr->Option HO
def upd (H:Hp) (a:Addr) (o:HO):Hp:=fun b=>if b=a then some o else H b
theorem Ar {H:Hp} {a:Addr} {o:HO}:upd H a o a=some o:=by unfold upd;rw [if_pos rfl]
theorem AN {H:Hp} {a b:Addr} {o:HO} (h:b≠a):upd H a o b=H b:=by unfold upd;rw [if_neg h]
theorem WD {H:Hp} {a b:Addr} {o u:HO} (h:H a=some o) (h':H b=some u) (d:o≠u):a≠b:=by
 intro e;subst e;rw [h]at h';exact d (Option.some.inj h')
theorem AK {H:Hp} {a b:Addr} {o:HO} (h:H a=some o) (h':H b=none):a≠b:=by
 intro e;subst e;rw [h]at h';cases h'
section
variable (P:Program)(w:World)
def ObjOk (H:Hp) (h:Heap) (a:Addr):HO->Prop
 |.lst xs=>xs.length≤sizeLine/\∃(its:List Value) (n:Nat),Vals xs its/\h.get? a=some { cls:=.type "list",data:=.seq its.toArray n }
 |.tup xs=>xs.length≤sizeLine/\∃its:List Value,Vals xs its/\IsTup h a its.toArray
 |.dK kvs=>kvs.length≤sizeLine/\(a==sysModules)=false/\∃vs,KV kvs vs/\h.DictOf (NN P w) a vs
 |.dT kvs=>kvs.length≤sizeLine/\(a==sysModules)=false/\∃xs:List (List Key×Addr×Value),
   Paired (fun (p:List Key×V) (q:List Key×Addr×Value)=>p.1=q.1/\H q.2.1=some (.tup (p.1.map kV))/\RelV p.2 q.2.2) kvs xs ∧
   ∃o es ep,h.get? a=some o/\o.ExactDict/\o.data=.dict es ep/\es.toList=xs.map (entryOfKey (tupleKind (NN P w)))/\(xs.map (·.1)).Nodup
 |.set S n=>h.SetOf (intKind P w) a S n
 |.ins C dx fs=>H dx=some (.own a)/\fs.length≤1000/\dx≠a/\h.get? a=some (PySem.W.instObj C dx) ∧
   ∃mA,h.Ns1 dx mA/\(∀f,Z9 (fs.lookup f) (mA f))/\PySem.Within mA (fs.map (·.1))
 |.own _=>∃o,h.get? a=some o
 |.xd fs=>∃mA,h.Ns1 a mA/\∀f,Z9 (fs.lookup f) (mA f)
 |.rng lo hi=>∃t u v,h.get? a=some { cls:=.type "range",data:=.fields #[.int lo t,.int hi u,.int 1 v] }
 |.frz o u=>h.get? a=some o/\ObjOk H h a u
 |.tbl ps=>h.get? a=some { cls:=.none,data:=.fields ps }
 |.met f x=>h.get? a=some (PySem.W.methodObj (.ref f) (.ref x))
 |.ext φ=>φ h/\(∃o,h.get? a=some o)/\∀h1 h2:Heap,φ h1->(∀o,h1.get? a=some o->h2.get? a=some o)->φ h2
def HOk (H:Hp) (h:Heap):Prop:=∀a o,H a=some o->ObjOk P w H h a o
end
section
variable {P:Program}{w:World}{H H':Hp}{h h':Heap}{a:Addr}{o:HO}
theorem ObjOk.lt (x:ObjOk P w H h a o):a<h.objs.size:=by
 cases o with
 |lst xs=>obtain ⟨_,_,_,_,e⟩:=x;exact Heap.lt_size e
 |tup xs=>obtain ⟨_,_,_,p⟩:=x;exact p.lt
 |dK kvs=>obtain ⟨_,_,_,_,o,_,_,e,_⟩:=x;exact Heap.lt_size e
 |dT kvs=>obtain ⟨_,_,_,_,o,_,_,e,_⟩:=x;exact Heap.lt_size e
 |set S n=>obtain ⟨o,_,_,_,e,_⟩:=x;exact Heap.lt_size e
 |ins C dx fs=>obtain ⟨_,_,_,e,_⟩:=x;exact Heap.lt_size e
 |own y=>obtain ⟨_,e⟩:=x;exact Heap.lt_size e
 |xd fs=>obtain ⟨_,⟨_,_,_,e,_⟩,_⟩:=x;exact Heap.lt_size e
 |rng lo hi=>obtain ⟨_,_,_,e⟩:=x;exact Heap.lt_size e
 |frz ob u=>obtain ⟨e,_⟩:=x;exact Heap.lt_size e
 |tbl ps=>exact Heap.lt_size (show h.get? a=some _ from x)
 |met f y=>exact Heap.lt_size (show h.get? a=some _ from x)
 |ext φ=>obtain ⟨_,⟨_,e⟩,_⟩:=x;exact Heap.lt_size e
theorem Paired.mapP {α β:Type} {F G:α->β->Prop}:∀{l₁:List α} {l₂:List β},Paired F l₁ l₂->(∀a b,F a b->G a b)->Paired G l₁ l₂
 |_,_,.nil,_=>.nil
 |_,_,.cons r t,f=>.cons (f _ _ r) (Paired.mapP t f)
theorem ObjOk.stay (x:ObjOk P w H h a o) (k:∀b u,(b=a\/H b=some (.own a))->h.get? b=some u->h'.get? b=some u)
  (ho:∀b,H b=some (.own a)->H' b=some (.own a)) (ht:∀b xs,H b=some (.tup xs)->H' b=some (.tup xs)):ObjOk P w H' h' a o:=by
 induction o with
 |lst xs=>obtain ⟨z,its,n,r,e⟩:=x;exact ⟨z,its,n,r,k _ _ (.inl rfl) e⟩
 |tup xs=>obtain ⟨z,its,r,ob,e,c⟩:=x;exact ⟨z,its,r,ob,k _ _ (.inl rfl) e,c⟩
 |dK kvs=>obtain ⟨z,y,vs,r,ob,es,ep,e,c⟩:=x;exact ⟨z,y,vs,r,ob,es,ep,k _ _ (.inl rfl) e,c⟩
 |dT kvs=>
  obtain ⟨z,y,xs,r,ob,es,ep,e,c⟩:=x
  exact ⟨z,y,xs,Paired.mapP r fun p q z=>⟨z.1,ht _ _ z.2.1,z.2.2⟩,ob,es,ep,k _ _ (.inl rfl) e,c⟩
 |set S n=>obtain ⟨ob,es,ep,t,e,c⟩:=x;exact ⟨ob,es,ep,t,k _ _ (.inl rfl) e,c⟩
 |ins C dx fs=>
  obtain ⟨d,z,ne,e,mA,⟨od,es,ep,e2,c⟩,r⟩:=x
  exact ⟨ho _ d,z,ne,k _ _ (.inl rfl) e,mA,⟨od,es,ep,k _ _ (.inr d) e2,c⟩,r⟩
 |own y=>obtain ⟨ob,e⟩:=x;exact ⟨ob,k _ _ (.inl rfl) e⟩
 |xd fs=>obtain ⟨mA,⟨od,es,ep,e,c⟩,r⟩:=x;exact ⟨mA,⟨od,es,ep,k _ _ (.inl rfl) e,c⟩,r⟩
 |rng lo hi=>obtain ⟨t,u,v,e⟩:=x;exact ⟨t,u,v,k _ _ (.inl rfl) e⟩
 |frz ob u ih=>obtain ⟨e,q⟩:=x;exact ⟨k _ _ (.inl rfl) e,ih q⟩
 |tbl ps=>
  have e:h.get? a=some { cls:=.none,data:=.fields ps }:=x
  show h'.get? a=some { cls:=.none,data:=.fields ps }
  exact k a _ (.inl rfl) e
 |met f y=>
  have e:h.get? a=some (PySem.W.methodObj (.ref f) (.ref y)):=x
  show h'.get? a=some (PySem.W.methodObj (.ref f) (.ref y))
  exact k a _ (.inl rfl) e
 |ext φ=>obtain ⟨p,⟨o,e⟩,st⟩:=x;exact ⟨st _ _ p fun o q=>k _ _ (.inl rfl) q,⟨o,k _ _ (.inl rfl) e⟩,st⟩
theorem HOk.lt (x:HOk P w H h) (e:H a=some o):a<h.objs.size:=(x a o e).lt
theorem HOk.fresh (x:HOk P w H h) (e:h.objs.size≤a):H a=none:=by
 cases q:H a with
 |none=>rfl
 |some u=>exact absurd (Nat.lt_of_lt_of_le (x.lt q) e) (Nat.lt_irrefl _)
theorem HOk.kept (x:HOk P w H h) (k:∀b u,h.get? b=some u->h'.get? b=some u):HOk P w H h':=fun a o e=>
 (x a o e).stay (fun b u _ q=>k b u q) (fun _ q=>q) fun _ _ q=>q
theorem HOk.laid (x:HOk P w H h) (k:∀b u,h.get? b=some u->h'.get? b=some u) (hp:h.objs.size≤a) (new:ObjOk P w (upd H a o) h' a o):HOk P w (upd H a o) h':=fun b u e=>by
 have hn:=x.fresh hp
 by_cases hb:b=a
 ·subst hb;rw [Ar]at e;cases e;exact new
 ·rw [AN hb]at e
  exact (x b u e).stay (fun c v _ q=>k c v q) (fun c q=>by rw [AN (AK q hn)];exact q) fun c xs q=>by rw [AN (AK q hn)];exact q
end
def Rd (H:Hp) (a:Addr) (u:HO):Prop:=H a=some u\/∃o,H a=some (.frz o u)
theorem Rd.of {H:Hp} {a:Addr} {u:HO} (h:H a=some u):Rd H a u:=.inl h
theorem Rd.ok {P:Program} {w:World} {H:Hp} {h:Heap} {a:Addr} {u:HO} (r:Rd H a u) (x:HOk P w H h):ObjOk P w H h a u:=by
 rcases r with r|⟨o,r⟩
 ·exact x a u r
 ·obtain ⟨_,q⟩:=x a _ r
  exact q
def Mut:Option HO->Prop
 |some (.lst _)=>True
 |some (.dK _)=>True
 |some (.dT _)=>True
 |some (.set _ _)=>True
 |some (.ins _ _ _)=>True
 |some (.ext _)=>True
 |_=>False
section
variable {P:Program}{w:World}{H:Hp}{h h':Heap}{x e:Addr}{o':HO}
theorem HOk.write (ok:HOk P w H h) (mu:Mut (H x)) (he:e=x\/H e=some (.own x)) (k:∀b u,b≠e->h.get? b=some u->h'.get? b=some u) (cR:∃u,h'.get? e=some u)
  (new:ObjOk P w (upd H x o') h' x o'):HOk P w (upd H x o') h':=fun b u q=>by
 have cf:∀c y,H c=some (.own y)->c≠x:=fun c y r z=>by subst z;rw [r]at mu;exact mu
 have kg:∀c xs,H c=some (.tup xs)->c≠x:=fun c xs r z=>by subst z;rw [r]at mu;exact mu
 by_cases hb:b=x
 ·subst hb;rw [Ar]at q;cases q;exact new
 ·rw [AN hb]at q
  by_cases hbe:b=e
  ·have q':H b=some (.own x):=by
    rcases he with z|z
    ·exact absurd (hbe.trans z) hb
    ·rw [hbe];exact z
   rw [q]at q';cases q'
   obtain ⟨v,hv⟩:=cR
   exact ⟨v,by rw [hbe];exact hv⟩
  ·refine (ok b u q).stay (fun c v hc r=>k c v ?_ r) (fun c r=>by rw [AN (cf c b r)];exact r) fun c xs r=>by rw [AN (kg c xs r)];exact r
   rcases hc with rfl|hc
   ·exact hbe
   ·rintro rfl
    rcases he with z|z
    ·exact cf c b hc z
    ·rw [hc]at z;cases z;exact hb rfl
end
structure Un (fs ex:List Addr) (H H':Hp) (h h':Heap):Prop where
 keep:∀b o,h.get? b=some o->H b=none->b∉fs->b∉ex->h'.get? b=some o
 slot:∀b o,h.get? b=some o->H b=none->b∈fs->b∉ex->∃sl,h'.get? b=some { o with slots:=sl }
 free:∀b o,h.get? b=some o->H b=none->b∉ex->H' b=none
 there:∀b o,h.get? b=some o->b∉ex->∃o',h'.get? b=some o'
 tups:∀b xs,H b=some (.tup xs)->H' b=some (.tup xs)
 frzs:∀b o u,H b=some (.frz o u)->H' b=some (.frz o u)
 tbls:∀b ps,H b=some (.tbl ps)->∃more,H' b=some (.tbl (ps++more))
section
variable {fs xr ex zB:List Addr}{H H1 H2:Hp}{h h1 h2 h':Heap}{a x e:Addr}{o:HO}
theorem Un.any (u:Un fs ex H H1 h h1) {b:Addr} {ob:Obj} (q:h.get? b=some ob) (n:H b=none) (hx:b∉ex):∃sl,h1.get? b=some { ob with slots:=sl }:=by
 by_cases hb:b∈fs
 ·exact u.slot b ob q n hb hx
 ·exact ⟨ob.slots,u.keep b ob q n hb hx⟩
theorem Un.trans (a:Un fs ex H H1 h h1) (b:Un fs ex H1 H2 h1 h2):Un fs ex H H2 h h2 where
 keep:=fun c ob q n hc hx=>b.keep c ob (a.keep c ob q n hc hx) (a.free c ob q n hx) hc hx
 slot:=fun c ob q n hc hx=>by
  obtain ⟨sl,e1⟩:=a.slot c ob q n hc hx
  obtain ⟨fT,e2⟩:=b.slot c _ e1 (a.free c ob q n hx) hc hx
  exact ⟨fT,e2⟩
 free:=fun c ob q n hx=>by
  obtain ⟨o',e1⟩:=a.there c ob q hx
  exact b.free c o' e1 (a.free c ob q n hx) hx
 there:=fun c ob q hx=>by
  obtain ⟨o',e1⟩:=a.there c ob q hx
  exact b.there c o' e1 hx
 tups:=fun c xs q=>b.tups c xs (a.tups c xs q)
 frzs:=fun c ob xs q=>b.frzs c ob xs (a.frzs c ob xs q)
 tbls:=fun c ps q=>by
  obtain ⟨m1,e1⟩:=a.tbls c ps q
  obtain ⟨m2,e2⟩:=b.tbls c _ e1
  exact ⟨m1++m2,by rw [e2,Array.append_assoc]⟩
theorem Un.kept (k:∀b u,h.get? b=some u->h'.get? b=some u):Un fs ex H H h h':=
 ⟨fun b ob q _ _ _=>k b ob q,fun b ob q _ _ _=>⟨ob.slots,k b ob q⟩,fun _ _ _ n _=>n,fun b ob q _=>⟨ob,k b ob q⟩,fun _ _ q=>q,fun _ _ _ q=>q,fun _ ps q=>⟨#[],by rw [q];simp⟩⟩
theorem Un.refl:Un fs ex H H h h:=Un.kept fun _ _ q=>q
theorem Un.laid (k:∀b u,h.get? b=some u->h'.get? b=some u) (hp:h.objs.size≤a) (hn:H a=none):Un fs ex H (upd H a o) h h' where
 keep:=fun b u q _ _ _=>k b u q
 slot:=fun b u q _ _ _=>⟨u.slots,k b u q⟩
 free:=fun b u q n _=>by rw [AN (Nat.ne_of_lt (Nat.lt_of_lt_of_le (Heap.lt_size q) hp))];exact n
 there:=fun b u q _=>⟨u,k b u q⟩
 tups:=fun b xs q=>by rw [AN (AK q hn)];exact q
 frzs:=fun b u xs q=>by rw [AN (AK q hn)];exact q
 tbls:=fun b ps q=>⟨#[],by rw [AN (AK q hn),q];simp⟩
theorem Un.write (mu:Mut (H x)) (he:e=x\/H e=some (.own x)) (k:∀b u,b≠e->h.get? b=some u->h'.get? b=some u) (cR:∃u,h'.get? e=some u):Un fs ex H (upd H x o) h h':=by
 have hx:∀b,H b=none->b≠x:=fun b n z=>by subst z;rw [n]at mu;exact mu
 have hb:∀b,H b=none->b≠e:=fun b n z=>by
  subst z
  rcases he with r|r
  ·exact hx b n r
  ·rw [n]at r;cases r
 have hm:∀b u,H b=some u->¬Mut (some u)->b≠x:=fun b u q nm z=>by subst z;rw [q]at mu;exact nm mu
 refine ⟨fun b u q n _ _=>k b u (hb b n) q,fun b u q n _ _=>⟨u.slots,k b u (hb b n) q⟩,fun b u q n _=>by rw [AN (hx b n)];exact n,fun b u q _=>?_,
  fun b xs q=>by rw [AN (hm b _ q fun z=>z)];exact q,fun b u xs q=>by rw [AN (hm b _ q fun z=>z)];exact q,fun b ps q=>⟨#[],by rw [AN (hm b _ q fun z=>z),q];simp⟩⟩
 by_cases hbe:b=e
 ·subst hbe;exact cR
 ·exact ⟨u,k b u hbe q⟩
end
def trk (h:Heap) (H:Hp):List Addr:=(List.range h.objs.size).filter fun a=>(H a).isSome
def Mv (h:Heap) (H:Hp):Heap:=PySem.W.hideAll h (trk h H)
theorem Sl (h:Heap) (H:Hp):(Mv h H).objs.size=h.objs.size:=PySem.W.hideAll_size _ _
theorem Ud {h:Heap} {H:Hp} {b:Addr} {o:Obj} (e:h.get? b=some o) (n:H b=none):(Mv h H).get? b=some o:=
 PySem.W.hideAll_get _ e fun hm=>by
  have q:(H b).isSome=true:=(List.mem_filter.mp hm).2
  rw [n]at q;simp at q
theorem Xy {h:Heap} {H:Hp} {b:Addr} {o:Obj} (e:(Mv h H).get? b=some o):h.get? b=some o/\H b=none:=by
 have e':h.get? b=some o:=PySem.W.of_hideAll (trk h H) e
 refine ⟨e',?_⟩
 cases q:H b with
 |none=>rfl
 |some x=>
  have hm:b∈trk h H:=List.mem_filter.mpr ⟨List.mem_range.mpr (Heap.lt_size e'),by simp [q]⟩
  have z:(Mv h H).get? b=none:=PySem.W.hideAll_none (trk h H) hm
  rw [z]at e;cases e
def XI (g h:Heap) (L:Addr):List (Addr×Obj):=(List.range h.objs.size).filterMap fun a=>if a=L\/(g.get? a).isSome=true then none else (h.get? a).map fun o=>(a,o)
def rest (g h:Heap) (L d:Addr):List (Addr×Obj):=(XI g h L).filter fun p=>decide (p.1≠d)
structure Mod (K:PySem.W.Frag) (mg:Str->Option Value) (base:Heap):Prop where
 kin:K.In base
 glob:base.Ns mainGlobals mg
 blt:∃mb,base.Ns builtinsNs mb/\∀x:Str,x≠"__name__"->mb x=bootBuiltins x
 nolimit:base.NoLimit
structure Cx where
 prog:Program
 w:World
 K:PySem.W.Frag
 mg:Str->Option Value
 base:Heap
 A:Around
 N:List Str
 s₀:Shared
 H₀:Hp
 env:Env
 outer:List Env
 stack:List Env
 ex:List Addr
 fn:Str->Bool
 calm:Bool
 pn:List (Addr×Obj)
 xe:Value->Shared->Prop
def frs (l:List Env):List Addr:=l.filterMap (·.frame)
abbrev Cx.fs (X:Cx):List Addr:=frs X.outer
def Vis (sc:Scope) (x:Str):Prop:=sc.names.lookup x=some .local\/sc.names.lookup x=some .cell\/sc.names.lookup x=some .free
def Loc (sc:Scope) (x:Str):Prop:=sc.names.lookup x=some .local\/sc.names.lookup x=some .cell
def mw (env:Env) (h:Heap) (m:Str->Option Value) (x:Str) (u:Value):Prop:=
 (env.kindOf x=some .local/\m x=some u)\/((env.kindOf x=some .cell\/env.kindOf x=some .free)/\∃c,env.cells.lookup x=some c/\h.IsCell c (some u))
structure Cx.Ok (X:Cx):Prop where
 mod:Mod X.K X.mg X.base
 kind:X.env.scope.kind=.function
 glob:X.env.globals=mainGlobals
 blt:X.env.builtins=builtinsNs
 above:X.s₀.heap.objs.size≤X.env.locals
 inj:∀x y c,X.env.cells.lookup x=some c->X.env.cells.lookup y=some c->x=y
 has:∀x,(X.env.kindOf x=some .cell\/X.env.kindOf x=some .free)->∃c,X.env.cells.lookup x=some c
 cab:∀x c,X.fn x=true->X.env.cells.lookup x=some c->X.s₀.heap.objs.size≤c
 hd:X.calm=true->X.A.handled=none
 frames:X.A.frames=some X.stack
 stk:X.stack=X.outer\/(X.stack=X.env::X.outer/\X.env.frame=some X.env.locals)
 exf:∀b∈X.ex,b≠X.env.locals/\∀x c,X.env.cells.lookup x=some c->c≠b
 bs:∀b o,X.base.get? b=some o->X.s₀.heap.get? b=some o/\X.H₀ b=none
 bsz:X.base.objs.size≤X.s₀.heap.objs.size
 noex:∀b o,X.base.get? b=some o->b∉X.ex
 exfs:∀b∈X.ex,b∉X.fs
 funs:X.s₀.heap.FunFrames X.base X.outer
 frf:∀b∈X.fs,X.H₀ b=none
structure Inv (X:Cx) (pins:List (Addr×Obj)) (σ:List (Option V)) (H:Hp) (s:Shared):Prop where
 ok:X.Ok
 os:s.os=X.s₀.os
 bare:AllBare s.gens
 base:Un X.fs X.ex X.H₀ H X.s₀.heap s.heap
 loc:∃m,s.heap.Ns X.env.locals m/\∀(i:Nat) (x:Str) (v:V),X.N[i]?=some x->σ[i]?=some (some v)->Vis X.env.scope x->∃u,RelV v u/\mw X.env s.heap m x u
 cell:∀x c,X.env.cells.lookup x=some c->∃v,s.heap.IsCell c v
 free:H X.env.locals=none
 freeC:∀x c,X.env.cells.lookup x=some c->H c=none
 pin:∀p∈X.pn++pins,s.heap.get? p.1=some p.2/\H p.1=none/\p.1≠X.env.locals/\p.1∉X.fs/\∀v,p.2.data≠.cell v
 hok:HOk X.prog X.w H s.heap
 len:σ.length=X.N.length
section
variable {X:Cx}{pins:List (Addr×Obj)}{σ:List (Option V)}{H H':Hp}{s:Shared}{h':Heap}
theorem Cx.Ok.nofr (ok:X.Ok) {b:Addr} {o:Obj} (e:X.base.get? b=some o):b∉X.fs:=fun hb=>by
 have:=(ok.funs.mem hb).1
 rw [e]at this;cases this
theorem Inv.bs (I:Inv X pins σ H s):∀b o,X.base.get? b=some o->s.heap.get? b=some o/\H b=none:=fun b o e=>
 ⟨I.base.keep b o (I.ok.bs b o e).1 (I.ok.bs b o e).2 (I.ok.nofr e) (I.ok.noex b o e),I.base.free b o (I.ok.bs b o e).1 (I.ok.bs b o e).2 (I.ok.noex b o e)⟩
theorem Inv.bk (I:Inv X pins σ H s):∀b o,X.base.get? b=some o->s.heap.get? b=some o:=fun b o e=>(I.bs b o e).1
theorem Inv.mod (I:Inv X pins σ H s):Mod X.K X.mg X.base:=I.ok.mod
theorem Inv.kIn (I:Inv X pins σ H s):X.K.In s.heap:=I.ok.mod.kin.keeps I.bk
theorem Inv.nolimit (I:Inv X pins σ H s):s.heap.NoLimit:=I.ok.mod.nolimit.keeps I.bk
theorem Inv.fr (I:Inv X pins σ H s):∃m,Fr X.base X.env.locals s.heap m:=
 let ⟨m,hn,_⟩:=I.loc
 ⟨m,hn,I.bk,Nat.le_trans I.ok.bsz I.ok.above⟩
theorem Inv.lt (I:Inv X pins σ H s):X.env.locals<s.heap.objs.size:=let ⟨_,hn,_⟩:=I.loc;hn.lt
theorem Inv.sz (I:Inv X pins σ H s):X.s₀.heap.objs.size≤s.heap.objs.size:=Nat.le_trans I.ok.above (Nat.le_of_lt I.lt)
theorem Inv.nofs (I:Inv X pins σ H s) {a:Addr} (h:s.heap.objs.size≤a):a∉X.fs:=fun hb=>by
 obtain ⟨_,o,ho,_⟩:=I.ok.funs.mem hb
 exact absurd (Nat.lt_of_lt_of_le (Heap.lt_size ho) (Nat.le_trans I.sz h)) (Nat.lt_irrefl _)
theorem Inv.cne (I:Inv X pins σ H s):∀x c,X.env.cells.lookup x=some c->c≠X.env.locals:=fun x c e z=>by
 obtain ⟨v,o,ho,hd⟩:=I.cell x c e
 obtain ⟨m,⟨o',es,ep,HE,UW,_⟩,_⟩:=I.loc
 rw [z,HE]at ho;cases ho;rw [UW]at hd;cases hd
theorem Inv.funs (I:Inv X pins σ H s):s.heap.FunFrames X.base X.outer:=by
 have all:∀(l:List Env),(∀b∈frs l,b∈X.fs)->X.s₀.heap.FunFrames X.base l->s.heap.FunFrames X.base l:=by
  intro l
  induction l with
  |nil=>intro _ _;trivial
  |cons env r ih=>
   intro hs hl
   obtain ⟨hk,⟨L,o,hf,hn,ho,hd⟩,hr⟩:=hl
   have hL:L∈X.fs:=hs L (by unfold frs;rw [List.filterMap_cons,hf];exact List.mem_cons_self)
   obtain ⟨sl,e⟩:=I.base.slot L o ho (I.ok.frf L hL) hL fun z=>I.ok.exfs L z hL
   exact ⟨hk,⟨L,_,hf,hn,e,hd⟩,ih (fun b hb=>hs b (by unfold frs;rw [List.filterMap_cons,hf];exact List.mem_cons_of_mem _ hb)) hr⟩
 exact all X.outer (fun _ hb=>hb) I.ok.funs
theorem Inv.stack (I:Inv X pins σ H s):s.heap.FunFrames X.base X.stack:=by
 rcases I.ok.stk with e|⟨e,hf⟩
 ·rw [e];exact I.funs
 ·rw [e]
  obtain ⟨m,hn,_⟩:=I.loc
  refine .cons (by rw [I.ok.kind];decide) hf hn ?_ I.funs
  exact Heap.get?_none_of_le (Nat.le_trans I.ok.bsz I.ok.above)
theorem Inv.stkSub (I:Inv X pins σ H s):∀b∈frs X.stack,b∈X.env.locals::X.fs:=fun b hb=>by
 rcases I.ok.stk with e|⟨e,hf⟩
 ·rw [e]at hb;exact List.mem_cons_of_mem _ hb
 ·rw [e]at hb
  unfold frs at hb
  rw [List.filterMap_cons,hf]at hb
  exact hb
theorem Inv.stkFree (I:Inv X pins σ H s):∀b∈frs X.stack,H b=none:=fun b hb=>by
 rcases List.mem_cons.mp (I.stkSub b hb)with e|hb
 ·rw [e];exact I.free
 ·obtain ⟨_,o,ho,_⟩:=I.ok.funs.mem hb
  exact I.base.free b o ho (I.ok.frf b hb) fun z=>I.ok.exfs b z hb
theorem Inv.step {g':Array GenState} {t':Nat} {d':Drawn} {ch:List Addr} (I:Inv X pins σ H s)
  (UR:∀b∈ch,(b∈X.ex\/X.s₀.heap.objs.size≤b)/\b≠X.env.locals/\(∀x c,X.env.cells.lookup x=some c->c≠b)/\∀p∈X.pn++pins,p.1≠b)
  (keep:∀b o,b≠X.env.locals->b∉X.fs->b∉ch->s.heap.get? b=some o->H b=none->h'.get? b=some o)
  (slot:∀b o,b≠X.env.locals->b∈X.fs->b∉ch->s.heap.get? b=some o->H b=none->∃sl,h'.get? b=some { o with slots:=sl }) (free:∀b o,b∉ch->s.heap.get? b=some o->H b=none->H' b=none)
  (there:∀b o,b∉ch->s.heap.get? b=some o->∃o',h'.get? b=some o')
  (tups:∀b xs,H b=some (.tup xs)->H' b=some (.tup xs)) (frzs:∀b o u,H b=some (.frz o u)->H' b=some (.frz o u)) (tbls:∀b ps,H b=some (.tbl ps)->∃more,H' b=some (.tbl (ps++more)))
  (ns:∀m,s.heap.Ns X.env.locals m->h'.Ns X.env.locals m) (hok:HOk X.prog X.w H' h') (hg:AllBare g') :
  Inv X pins σ H' { s with heap:=h',gens:=g',drawn:=d',toks:=t' }:=by
 have Wt:∀b o,X.s₀.heap.get? b=some o->b≠X.env.locals:=fun b o e=>Nat.ne_of_lt (Nat.lt_of_lt_of_le (Heap.lt_size e) I.ok.above)
 have gp:∀b o,X.s₀.heap.get? b=some o->b∉X.ex->b∉ch:=fun b o e hx hb=>by
  rcases (UR b hb).1 with z|z
  ·exact hx z
  ·exact absurd (Nat.lt_of_lt_of_le (Heap.lt_size e) z) (Nat.lt_irrefl _)
 have cellK:∀x c,X.env.cells.lookup x=some c->∀v,s.heap.IsCell c v->h'.IsCell c v:=fun x c e v ⟨o,ho,hd⟩=>by
  have Lu:c∉ch:=fun z=>(UR c z).2.2.1 x c e rfl
  by_cases hc:c∈X.fs
  ·obtain ⟨sl,q⟩:=slot c o (I.cne x c e) hc Lu ho (I.freeC x c e)
   exact ⟨_,q,hd⟩
  ·exact ⟨o,keep c o (I.cne x c e) hc Lu ho (I.freeC x c e),hd⟩
 refine ⟨I.ok,I.os,hg,⟨fun b o e n hb hx=>?_,fun b o e n hb hx=>?_,fun b o e n hx=>?_,fun b o e hx=>?_,fun b xs e=>tups b xs (I.base.tups b xs e),fun b o xs e=>frzs b o xs (I.base.frzs b o xs e),fun b ps e=>?_⟩,?_,fun x c e=>?_,?_,fun x c e=>?_,fun p hp=>?_,hok,I.len⟩
 ·exact keep b o (Wt b o e) hb (gp b o e hx) (I.base.keep b o e n hb hx) (I.base.free b o e n hx)
 ·obtain ⟨sl,e1⟩:=I.base.slot b o e n hb hx
  obtain ⟨fT,e2⟩:=slot b _ (Wt b o e) hb (gp b o e hx) e1 (I.base.free b o e n hx)
  exact ⟨fT,e2⟩
 ·obtain ⟨o',e1⟩:=I.base.there b o e hx
  exact free b o' (gp b o e hx) e1 (I.base.free b o e n hx)
 ·obtain ⟨o',e1⟩:=I.base.there b o e hx
  exact there b o' (gp b o e hx) e1
 ·obtain ⟨m1,e1⟩:=I.base.tbls b ps e
  obtain ⟨m2,e2⟩:=tbls b _ e1
  exact ⟨m1++m2,by rw [e2,Array.append_assoc]⟩
 ·obtain ⟨m,hn,hl⟩:=I.loc
  refine ⟨m,ns m hn,fun i x v e1 e2 e3=>?_⟩
  obtain ⟨u,r,l⟩:=hl i x v e1 e2 e3
  refine ⟨u,r,?_⟩
  rcases l with l|⟨k,c,e,z⟩
  ·exact .inl l
  ·exact .inr ⟨k,c,e,cellK x c e _ z⟩
 ·obtain ⟨v,z⟩:=I.cell x c e
  exact ⟨v,cellK x c e v z⟩
 ·obtain ⟨m,⟨o,_,_,ho,_⟩,_⟩:=I.loc
  exact free _ o (fun z=>(UR _ z).2.1 rfl) ho I.free
 ·obtain ⟨v,o,ho,hd⟩:=I.cell x c e
  exact free c o (fun z=>(UR c z).2.2.1 x c e rfl) ho (I.freeC x c e)
 ·obtain ⟨e,n,ne,nf,d⟩:=I.pin p hp
  have Lu:p.1∉ch:=fun z=>(UR p.1 z).2.2.2 p hp rfl
  exact ⟨keep p.1 p.2 ne nf Lu e n,free p.1 p.2 Lu e n,ne,nf,d⟩
theorem Inv.un {t':Nat} (I:Inv X pins σ H s) (u:Un X.fs [] H H' s.heap h') (hok:HOk X.prog X.w H' h'):Inv X pins σ H' { s with heap:=h',toks:=t' }:=by
 obtain ⟨m,⟨o,es,ep,ho,r⟩,_⟩:=id I.loc
 obtain ⟨sl,hL⟩:=u.any ho I.free (by simp)
 exact I.step (g':=s.gens) (d':=s.drawn) (ch:=[]) (fun _ z=>nomatch z) (fun b o _ hb _ e n=>u.keep b o e n hb (by simp)) (fun b o _ hb _ e n=>u.slot b o e n hb (by simp)) (fun b o _ e n=>u.free b o e n (by simp)) (fun b o _ e=>u.there b o e (by simp)) u.tups u.frzs u.tbls (fun m' hm=>by
  obtain ⟨o',Gu,XD,HE,r'⟩:=hm
  rw [ho]at HE;cases HE
  exact ⟨_,Gu,XD,hL,r'⟩) hok I.bare
theorem Inv.call {g':Array GenState} {t':Nat} {d':Drawn} {ch:List Addr} (I:Inv X pins σ H s) (u:Un (frs X.stack) ch H H' s.heap h') (hok:HOk X.prog X.w H' h') (hg:AllBare g')
  (UR:∀b∈ch,(b∈X.ex\/X.s₀.heap.objs.size≤b)/\b≠X.env.locals/\(∀x c,X.env.cells.lookup x=some c->c≠b)/\∀p∈X.pn++pins,p.1≠b) :
  Inv X pins σ H' { s with heap:=h',gens:=g',drawn:=d',toks:=t' }:=by
 obtain ⟨m,⟨o,es,ep,ho,r⟩,_⟩:=id I.loc
 obtain ⟨sl,hL⟩:=u.any ho I.free fun z=>(UR _ z).2.1 rfl
 exact I.step (ch:=ch) UR (fun b o hL hb hc e n=>u.keep b o e n (fun z=>(List.mem_cons.mp (I.stkSub b z)).elim hL hb) hc) (fun b o _ _ hc e n=>u.any e n hc) (fun b o hc e n=>u.free b o e n hc) (fun b o hc e=>u.there b o e hc) u.tups u.frzs u.tbls (fun m' hm=>by
  obtain ⟨o',Gu,XD,HE,r'⟩:=hm
  rw [ho]at HE;cases HE
  exact ⟨_,Gu,XD,hL,r'⟩) hok hg
theorem Inv.turned {t':Nat} {it:Addr} (I:Inv X pins σ H s) (k:∀b o,b≠it->s.heap.get? b=some o->h'.get? b=some o) (hn:H it=none) (hL:it≠X.env.locals)
  (h1:it∈X.ex\/X.s₀.heap.objs.size≤it) (h2:∀x c,X.env.cells.lookup x=some c->c≠it) (h3:∀p∈X.pn++pins,p.1≠it):Inv X pins σ H { s with heap:=h',toks:=t' }:=by
 have qp:∀b u,H b=some u->b≠it:=fun b u e z=>by rw [z,hn]at e;cases e
 refine I.step (g':=s.gens) (d':=s.drawn) (ch:=[it]) (fun b hb=>?_) (fun b o _ _ hc e _=>k b o (fun z=>hc (by simp [z])) e) (fun b o _ _ hc e _=>⟨o.slots,k b o (fun z=>hc (by simp [z])) e⟩) (fun _ _ _ _ n=>n)
  (fun b o hc e=>⟨o,k b o (fun z=>hc (by simp [z])) e⟩) (fun _ _ e=>e) (fun _ _ _ e=>e) (fun b ps e=>⟨#[],by rw [e];simp⟩) (fun m hm=>?_) (fun b u e=>?_) I.bare
 ·have e:b=it:=by simpa using hb
  subst e
  exact ⟨h1,hL,h2,h3⟩
 ·obtain ⟨o,es,ep,ho,r⟩:=hm
  exact ⟨o,es,ep,k _ o (Ne.symm hL) ho,r⟩
 ·refine (I.hok b u e).stay (fun c v hc q=>k c v ?_ q) (fun _ q=>q) fun _ _ q=>q
  rcases hc with z|z
  ·rw [z];exact qp b u e
  ·exact qp c _ z
theorem Inv.tok (I:Inv X pins σ H s) (t:Nat):Inv X pins σ H { s with toks:=t }:=I.un (h':=s.heap) (t':=t) Un.refl I.hok
theorem Inv.kept {t':Nat} (I:Inv X pins σ H s) (k:∀b u,s.heap.get? b=some u->h'.get? b=some u):Inv X pins σ H { s with heap:=h',toks:=t' }:=I.un (Un.kept k) (I.hok.kept k)
theorem Inv.laid {a:Addr} {o:HO} {t':Nat} (I:Inv X pins σ H s) (k:∀b u,s.heap.get? b=some u->h'.get? b=some u) (hp:s.heap.objs.size≤a) (new:ObjOk X.prog X.w (upd H a o) h' a o) :
  Inv X pins σ (upd H a o) { s with heap:=h',toks:=t' }:=I.un (Un.laid k hp (I.hok.fresh hp)) (I.hok.laid k hp new)
theorem Inv.write {x e:Addr} {o:HO} {t':Nat} (I:Inv X pins σ H s) (mu:Mut (H x)) (he:e=x\/H e=some (.own x)) (k:∀b u,b≠e->s.heap.get? b=some u->h'.get? b=some u) (cR:∃u,h'.get? e=some u)
  (new:ObjOk X.prog X.w (upd H x o) h' x o):Inv X pins σ (upd H x o) { s with heap:=h',toks:=t' }:=I.un (Un.write mu he k cR) (I.hok.write mu he k cR new)
theorem Inv.pins_of {ZI:List (Addr×Obj)} (I:Inv X pins σ H s) (h:∀p∈ZI,s.heap.get? p.1=some p.2/\H p.1=none/\p.1≠X.env.locals/\p.1∉X.fs/\∀v,p.2.data≠.cell v):Inv X ZI σ H s:=
 ⟨I.ok,I.os,I.bare,I.base,I.loc,I.cell,I.free,I.freeC,fun p hp=>(List.mem_append.mp hp).elim (fun z=>I.pin p (List.mem_append_left _ z)) (h p),I.hok,I.len⟩
theorem Oy {N:List Str} (hN:N.Nodup) {i j:Nat} {x:Str} (a:N[i]?=some x) (b:N[j]?=some x):i=j:=by
 obtain ⟨h1,e1⟩:=List.getElem?_eq_some_iff.mp a
 obtain ⟨h2,e2⟩:=List.getElem?_eq_some_iff.mp b
 exact (List.getElem_inj hN).mp (e1.trans e2.symm)
theorem UN {M:Model} {A:Around} {E:Value->Shared->Prop} {i:Nat} {x:Str} {v:V} {u:Value} {Q:Unit->Shared->Prop} (I:Inv X pins σ H s) (hN:X.N.Nodup) (hi:X.N[i]?=some x) (hx:Loc X.env.scope x) (r:RelV v u)
  (h:∀s',Inv X pins (σ.set i (some v)) H s'->(∃a,Heap.SameBut a s.heap s'.heap/\(a=X.env.locals\/X.env.cells.lookup x=some a))->Q () s') (hf:X.fn x=true\/X.env.scope.names.lookup x=some .local:=by first|exact .inl rfl|exact .inr rfl|assumption):wpAny M A (storeName X.env x u) Q E s:=by
 obtain ⟨m,hn,hl⟩:=id I.loc
 have QA:(X.env.scope.kind==.class||(X.env.scope.kind==.module&&X.env.locals != X.env.globals))=false:=by rw [I.ok.kind];rfl
 have hiσ:i<σ.length:=by rw [I.len];exact (List.getElem?_eq_some_iff.mp hi).1
 have cne:=I.cne
 have tracked:∀{a:Addr} {h':Heap},(∃o,s.heap.get? a=some o/\H a=none)->Heap.SameBut a s.heap h'->HOk X.prog X.w H h':=fun {a h'} ha hs b ob e=>by
  obtain ⟨_,_,JL⟩:=ha
  refine (I.hok b ob e).stay (fun c w' hc q=>(hs.2 c ?_).trans q) (fun _ q=>q) fun _ _ q=>q
  rintro rfl
  rcases hc with rfl|hc
  ·rw [JL]at e;cases e
  ·rw [JL]at hc;cases hc
 rcases hx with hk|hk
 ·refine wpAny_storeName_local hk hn (fun h' az hs=>?_) QA
  obtain ⟨oL,_,_,SD,_⟩:=id hn
  refine h _ ⟨I.ok,I.os,I.bare,⟨fun b o e n hb hx=>?_,fun b o e n hb hx=>?_,I.base.free,fun b o e hx=>?_,I.base.tups,I.base.frzs,I.base.tbls⟩,⟨_,az,fun j y v' e1 e2 e3=>?_⟩,fun y c e=>?_,I.free,I.freeC,fun p hp=>?_,tracked ⟨oL,SD,I.free⟩ hs,by simpa using I.len⟩ ⟨_,hs,.inl rfl⟩
  ·exact (hs.2 b (Nat.ne_of_lt (Nat.lt_of_lt_of_le (Heap.lt_size e) I.ok.above))).trans (I.base.keep b o e n hb hx)
  ·obtain ⟨sl,e1⟩:=I.base.slot b o e n hb hx
   exact ⟨sl,(hs.2 b (Nat.ne_of_lt (Nat.lt_of_lt_of_le (Heap.lt_size e) I.ok.above))).trans e1⟩
  ·obtain ⟨o',e1⟩:=I.base.there b o e hx
   exact ⟨o',(hs.2 b (Nat.ne_of_lt (Nat.lt_of_lt_of_le (Heap.lt_size e) I.ok.above))).trans e1⟩
  ·by_cases hj:j=i
   ·subst hj
    rw [hi]at e1;cases e1
    rw [List.getElem?_set_self hiσ]at e2
    cases e2
    exact ⟨u,r,.inl ⟨hk,by simp⟩⟩
   ·rw [List.getElem?_set_ne (Ne.symm hj)]at e2
    obtain ⟨u',r',q⟩:=hl j y v' e1 e2 e3
    refine ⟨u',r',?_⟩
    rcases q with ⟨k,e⟩|⟨k,c,e,z⟩
    ·refine .inl ⟨k,?_⟩
     have:y≠x:=fun e=>hj (Oy hN e1 (e▸hi))
     simp [this,e]
    ·exact .inr ⟨k,c,e,z.sameBut hs (cne y c e)⟩
  ·obtain ⟨w',z⟩:=I.cell y c e
   exact ⟨w',z.sameBut hs (cne y c e)⟩
  ·obtain ⟨e,n,ne,nf,d⟩:=I.pin p hp
   exact ⟨(hs.2 p.1 ne).trans e,n,ne,nf,d⟩
 ·have fI:X.fn x=true:=by
   rcases hf with z|z
   ·exact z
   ·rw [z]at hk;cases hk
  obtain ⟨c,hc⟩:=I.ok.has x (.inl hk)
  obtain ⟨w',z⟩:=I.cell x c hc
  refine wpAny_storeName_cell I.ok.kind hk hc z (fun h' ZY hs=>?_)
  obtain ⟨oc,cP,lY⟩:=id z
  refine h { s with heap:=h' } ⟨I.ok,I.os,I.bare,⟨fun b o e n hb hx=>?_,fun b o e n hb hx=>?_,I.base.free,fun b o e hx=>?_,I.base.tups,I.base.frzs,I.base.tbls⟩,⟨m,hn.sameBut hs (Ne.symm (cne x c hc)),fun j y v' e1 e2 e3=>?_⟩,fun y c' e=>?_,I.free,I.freeC,fun p hp=>?_,tracked ⟨oc,cP,I.freeC x c hc⟩ hs,by simpa using I.len⟩ ⟨c,hs,.inr hc⟩
  ·exact (hs.2 b (Nat.ne_of_lt (Nat.lt_of_lt_of_le (Heap.lt_size e) (I.ok.cab x c fI hc)))).trans (I.base.keep b o e n hb hx)
  ·obtain ⟨sl,e1⟩:=I.base.slot b o e n hb hx
   exact ⟨sl,(hs.2 b (Nat.ne_of_lt (Nat.lt_of_lt_of_le (Heap.lt_size e) (I.ok.cab x c fI hc)))).trans e1⟩
  ·obtain ⟨o',e1⟩:=I.base.there b o e hx
   exact ⟨o',(hs.2 b (Nat.ne_of_lt (Nat.lt_of_lt_of_le (Heap.lt_size e) (I.ok.cab x c fI hc)))).trans e1⟩
  ·by_cases hj:j=i
   ·subst hj
    rw [hi]at e1;cases e1
    rw [List.getElem?_set_self hiσ]at e2
    cases e2
    exact ⟨u,r,.inr ⟨.inl hk,c,hc,ZY⟩⟩
   ·rw [List.getElem?_set_ne (Ne.symm hj)]at e2
    obtain ⟨u',r',q⟩:=hl j y v' e1 e2 e3
    refine ⟨u',r',?_⟩
    rcases q with q|⟨k,c',e,z'⟩
    ·exact .inl q
    ·refine .inr ⟨k,c',e,z'.sameBut hs ?_⟩
     rintro rfl
     exact hj (Oy hN e1 (I.ok.inj _ _ _ e hc▸hi))
  ·by_cases hcc:c'=c
   ·subst hcc;exact ⟨_,ZY⟩
   ·obtain ⟨w2,z2⟩:=I.cell y c' e
    exact ⟨w2,z2.sameBut hs hcc⟩
  ·obtain ⟨e,n,ne,nf,d⟩:=I.pin p hp
   refine ⟨(hs.2 p.1 ?_).trans e,n,ne,nf,d⟩
   intro q
   rw [q,cP]at e
   have q':oc=p.2:=Option.some.inj e
   exact d w' (by rw [<-q'];exact lY)
theorem HQ {M:Model} {A:Around} {E:Value->Shared->Prop} {i:Nat} {x:Str} {v:V} {u:Value} {Q:Unit->Shared->Prop} (I:Inv X pins σ H s) (hN:X.N.Nodup) (hi:X.N[i]?=some x) (hx:Loc X.env.scope x) (r:RelV v u)
  (h:∀s',Inv X pins (σ.set i (some v)) H s'->Q () s') (hf:X.fn x=true\/X.env.scope.names.lookup x=some .local:=by first|exact .inl rfl|exact .inr rfl|assumption):wpAny M A (storeName X.env x u) Q E s:=
 UN I hN hi hx r (fun s' I' _=>h s' I') hf
theorem Inv.call' {s':Shared} {ch:List Addr} (I:Inv X pins σ H s) (ho:s'.os=s.os) (u:Un (frs X.stack) ch H H' s.heap s'.heap) (hok:HOk X.prog X.w H' s'.heap) (hg:AllBare s'.gens)
  (UR:∀b∈ch,(b∈X.ex\/X.s₀.heap.objs.size≤b)/\b≠X.env.locals/\(∀x c,X.env.cells.lookup x=some c->c≠b)/\∀p∈X.pn++pins,p.1≠b):Inv X pins σ H' s':=by
 obtain ⟨h',g',d',t',o'⟩:=s'
 have e:o'=s.os:=ho
 subst e
 exact I.call (g':=g') (t':=t') (d':=d') u hok hg UR
end
abbrev XK:=Value->Option Addr->Hp->Prop
abbrev St:=List (Option V)
abbrev VK:=V->Hp->Prop
abbrev TE:=St->Hp->VK->Prop
abbrev TT:=St->Hp->(Bool->Hp->Prop)->Prop
abbrev TA:=St->Hp->(List V->Hp->Prop)->Prop
structure Ends where
 nx:St->Hp->Prop
 rt:VK
 bk:St->Hp->Prop:=fun _ _=>False
 ct:St->Hp->Prop:=fun _ _=>False
abbrev TS:=Ends->St->Hp->Prop
def EP (X:Cx) (pins:List (Addr×Obj)) (σ:St) (Q:VK) (u:Value) (s':Shared):Prop:=∃v H',Inv X pins σ H' s'/\RelV v u/\Q v H'
def TP (X:Cx) (pins:List (Addr×Obj)) (σ:St) (Q:Bool->Hp->Prop) (b:Bool) (s':Shared):Prop:=∃H',Inv X pins σ H' s'/\Q b H'
def AP (X:Cx) (pins:List (Addr×Obj)) (σ:St) (Q:List V->Hp->Prop) (us:List Value) (s':Shared):Prop:=∃vs H',Inv X pins σ H' s'/\Vals vs us/\Q vs H'
def SP (X:Cx) (pins:List (Addr×Obj)) (D:Ends) (f:Flow) (s':Shared):Prop:=
 match f with
 |.next=>∃σ' H',Inv X pins σ' H' s'/\D.nx σ' H'
 |.brk=>∃σ' H',Inv X pins σ' H' s'/\D.bk σ' H'
 |.cont=>∃σ' H',Inv X pins σ' H' s'/\D.ct σ' H'
 |.ret u=>∃v σ' H',Inv X pins σ' H' s'/\RelV v u/\D.rt v H'
def PE (X:Cx) (e:Expr) (t:TE):Prop:=
 ∀(pins:List (Addr×Obj)) (s:Shared) (σ:St) (H:Hp) (Q:VK),Inv X pins σ H s->t σ H Q->wpAny (model X.prog X.w) X.A (eval e X.env) (EP X pins σ Q) X.xe s
def PT (X:Cx) (e:Expr) (t:TT):Prop:=
 ∀(pins:List (Addr×Obj)) (s:Shared) (σ:St) (H:Hp) (Q:Bool->Hp->Prop),Inv X pins σ H s->t σ H Q->wpAny (model X.prog X.w) X.A (isTrue e X.env (eval e X.env)) (TP X pins σ Q) X.xe s
def PA (X:Cx) (es:List Expr) (t:TA):Prop:=
 ∀(pos:Pos) (pins:List (Addr×Obj)) (s:Shared) (σ:St) (H:Hp) (Q:List V->Hp->Prop),Inv X pins σ H s->t σ H Q->wpAny (model X.prog X.w) X.A (spliced (backTo pos (starEach es X.env))) (AP X pins σ Q) X.xe s
def PS (X:Cx) (st:Stmt) (t:TS):Prop:=
 ∀(pins:List (Addr×Obj)) (s:Shared) (σ:St) (H:Hp) (D:Ends),Inv X pins σ H s->t D σ H->wpAny (model X.prog X.w) X.A (exec st X.env) (SP X pins D) X.xe s
def PSs (X:Cx) (st:List Stmt) (t:TS):Prop:=
 ∀(pins:List (Addr×Obj)) (s:Shared) (σ:St) (H:Hp) (D:Ends),Inv X pins σ H s->t D σ H->wpAny (model X.prog X.w) X.A (execs st X.env) (SP X pins D) X.xe s
theorem thn {α:Type} {t:Sem α} {Q Q':α->Shared->Prop} {M:Model} {A:Around} {E:Value->Shared->Prop} {s:Shared} (h:wpAny M A t Q E s) (hQ:∀a s,Q a s->Q' a s):wpAny M A t Q' E s:=wpAny_mono h hQ fun _ _ x=>x
section
variable {X:Cx}
def oj (i:Nat):TE:=fun σ H Q=>∃v,σ[i]?=some (some v)/\Q v H
def tC (v:V):TE:=fun _ H Q=>Q v H
theorem bT {i:Nat} {x:Str} {pos:Pos} (hN:X.N[i]?=some x) (hv:Vis X.env.scope x) (hd:(x==("__debug__":Str))=false:=by decide) (Qt:(x==("__classdict__":Str))=false:=by decide):PE X (.Name x pos) (oj i):=by
 intro pins s σ H Q I h
 obtain ⟨v,e,h⟩:=h
 obtain ⟨m,hn,hl⟩:=I.loc
 obtain ⟨u,r,l⟩:=hl i x v hN e hv
 have fin:EP X pins σ Q u s:=⟨v,H,I,r,h⟩
 rcases l with ⟨hk,hm⟩|⟨hk,c,hc,Yx⟩
 ·exact wpAny_Name (wpAny_loadName_local I.ok.kind hk hn hm fin) hd
 ·rcases hk with hk|hk
  ·exact wpAny_Name (wpAny_loadName_cell I.ok.kind hk hc Yx fin) hd
  ·exact wpAny_Name (wpAny_loadName_free I.ok.kind hk hc Yx fin Qt) hd
theorem Zi {i j pos}:PE X (.Constant (.int i) j pos) (tC (.int i)):=fun _ _ _ H _ I h=>wpAny_Constant_int ⟨.int i,H,I.tok _,⟨_,rfl⟩,h⟩
theorem dU {b j pos}:PE X (.Constant (.bool b) j pos) (tC (.bl b)):=fun _ _ _ H _ I h=>Constant_bool ⟨.bl b,H,I,rfl,h⟩
theorem Z8 {j pos}:PE X (.Constant .none j pos) (tC .non):=fun _ _ _ H _ I h=>Constant_none ⟨.non,H,I,rfl,h⟩
theorem cM {x j pos}:PE X (.Constant (.str x) j pos) (tC (.str x)):=fun _ _ _ H _ I h=>Calls.Constant_str ⟨.str x,H,I.tok _,⟨_,rfl⟩,h⟩
def Gl (X:Cx) (x:Str):Prop:=X.env.kindOf x=some .globalImplicit
theorem Du {E:Value->Shared->Prop} {pins:List (Addr×Obj)} {s:Shared} {σ:St} {H:Hp} {x:Str} {u:Value} {pos:Pos} {Q:Value->Shared->Prop} (I:Inv X pins σ H s) (hg:Gl X x) (hm:X.mg x=some u) (h:Q u s)
  (hd:(x==("__debug__":Str))=false:=by decide):wpAny (model X.prog X.w) X.A (eval (.Name x pos) X.env) Q E s:=
 Calls.Name_function_global I.ok.kind hg (Calls.loadGlobal_global (by rw [I.ok.glob];exact I.mod.glob.keeps I.bk) hm h) hd
theorem Cr {E:Value->Shared->Prop} {pins:List (Addr×Obj)} {s:Shared} {σ:St} {H:Hp} {x:Str} {u:Value} {pos:Pos} {Q:Value->Shared->Prop} (I:Inv X pins σ H s) (hg:Gl X x) (hm:X.mg x=none) (hv:bootBuiltins x=some u) (h:Q u s)
  (hn:x≠"__name__":=by decide) (hd:(x==("__debug__":Str))=false:=by decide):wpAny (model X.prog X.w) X.A (eval (.Name x pos) X.env) Q E s:=by
 obtain ⟨mb,h1,h2⟩:=I.mod.blt
 exact Calls.Name_function_global I.ok.kind hg (Calls.loadGlobal_builtin (by rw [I.ok.glob];exact I.mod.glob.keeps I.bk) hm (by rw [I.ok.blt];exact h1.keeps I.bk) ((h2 x hn).trans hv) h) hd
theorem YF {x:Str} {v:V} {u:Value} {pos:Pos} (hg:Gl X x) (hm:X.mg x=some u) (r:RelV v u) (hd:(x==("__debug__":Str))=false:=by decide):PE X (.Name x pos) (tC v):=
 fun _ _ _ H _ I h=>Du I hg hm ⟨v,H,I,r,h⟩ hd
theorem SE {x:Str} {v:V} {u:Value} {pos:Pos} (hg:Gl X x) (hm:X.mg x=none) (hv:bootBuiltins x=some u) (r:RelV v u) (hn:x≠"__name__":=by decide) (hd:(x==("__debug__":Str))=false:=by decide):PE X (.Name x pos) (tC v):=
 fun _ _ _ H _ I h=>Cr I hg hm hv ⟨v,H,I,r,h⟩ hn hd
variable {a b:Expr}{ta tb:TE}{pos:Pos}
theorem Oa (b:Expr) {op:CmpOp} (h:op≠.In) (h2:op≠.NotIn):behindInMarks op b=false:=by
 have e1:(op==CmpOp.In)=false:=by cases op<;>first|rfl|exact absurd rfl h
 have e2:(op==CmpOp.NotIn)=false:=by cases op<;>first|rfl|exact absurd rfl h2
 cases b<;>simp [behindInMarks,e1,e2]
def tB (t:TE):TT:=fun σ H Q=>t σ H fun x H1=>∃c,x=.bl c/\Q c H1
variable {tA yj:TT}{rest:List Expr}
end
def SqL (K:PySem.W.Frag) (H:Hp) (a:Addr) (xs:List V):Prop:=
 Rd H a (.lst xs) ∨
  ∃(o:Obj) (its:Array Value) (n:Nat),K.lookup a=some o/\o.cls=.type "list"/\o.dict=none/\o.data=.seq its n/\its.size≤sizeLine/\Vals xs its.toList
def SqT (K:PySem.W.Frag) (H:Hp) (a:Addr) (xs:List V):Prop:=
 Rd H a (.tup xs) ∨
  ∃(o:Obj) (its:Array Value) (n:Nat),K.lookup a=some o/\o.cls=.type "tuple"/\o.data=.seq its n/\its.size≤sizeLine/\Vals xs its.toList
def lp:Value->Option V
 |.none=>some .non
 |.bool b=>some (.bl b)
 |.int i _=>some (.int i)
 |.str x _=>some (.str x)
 |.bytes b _=>some (.byt b)
 |.float b _=>some (.flt b)
 |.ref a=>some (.ref a)
 |.type n=>some (.ty n)
 |_=>none
theorem RelV.abs {x:V} {u:Value} (r:RelV x u):lp u=some x:=by
 cases x with
 |non=>cases r;rfl
 |bl _=>cases r;rfl
 |int _=>obtain ⟨t,rfl⟩:=r;rfl
 |str _=>obtain ⟨t,rfl⟩:=r;rfl
 |byt _=>obtain ⟨t,rfl⟩:=r;rfl
 |flt _=>obtain ⟨t,rfl⟩:=r;rfl
 |ref _=>cases r;rfl
 |ty _=>cases r;rfl
theorem RelV.inj {x y:V} {u:Value} (r:RelV x u) (q:RelV y u):x=y:=Option.some.inj (r.abs.symm.trans q.abs)
theorem Vals.inj:∀{xs ys:List V} {us:List Value},Vals xs us->Vals ys us->xs=ys
 |_,_,_,.nil,.nil=>rfl
 |_,_,_,.cons r t,.cons r' t'=>by rw [r.inj r',Vals.inj t t']
section
variable {X:Cx}{pins:List (Addr×Obj)}{σ:St}{H:Hp}{s:Shared}{a:Addr}{xs ys:List V}
theorem SqL.of {K:PySem.W.Frag} (h:H a=some (.lst xs)):SqL K H a xs:=.inl (.inl h)
theorem SqT.of {K:PySem.W.Frag} (h:H a=some (.tup xs)):SqT K H a xs:=.inl (.inl h)
theorem Inv.list (I:Inv X pins σ H s) (h:SqL X.K H a xs):∃its:List Value,Vals xs its/\PlainL s.heap a its.toArray/\xs.length≤sizeLine:=by
 rcases h with h|⟨o,its,n,hk,hc,hd,hs,hz,r⟩
 ·obtain ⟨z,its,n,r,e⟩:=h.ok I.hok
  exact ⟨its,r,⟨_,n,e,rfl,rfl,rfl⟩,z⟩
 ·refine ⟨its.toList,r,⟨o,n,I.kIn a o hk,hc,hd,by simpa using hs⟩,?_⟩
  have e:=r.length
  simp only [Array.length_toList]at e
  lia
theorem Inv.tuple (I:Inv X pins σ H s) (h:SqT X.K H a xs):∃its:List Value,Vals xs its/\IsTup s.heap a its.toArray/\xs.length≤sizeLine:=by
 rcases h with h|⟨o,its,n,hk,hc,hs,hz,r⟩
 ·obtain ⟨z,its,r,p⟩:=h.ok I.hok
  exact ⟨its,r,p,z⟩
 ·refine ⟨its.toList,r,⟨o,I.kIn a o hk,hc,n,by simpa using hs⟩,?_⟩
  have e:=r.length
  simp only [Array.length_toList]at e
  lia
theorem Inv.list_inj (I:Inv X pins σ H s) (h:SqL X.K H a xs) (h':SqL X.K H a ys):xs=ys:=by
 obtain ⟨its,r,⟨o,n,e,_,_,d⟩,_⟩:=I.list h
 obtain ⟨its',r',⟨o',n',e',_,_,d'⟩,_⟩:=I.list h'
 rw [e]at e';cases e'
 rw [d]at d'
 injection d' with d1 _
 have:its=its':=by simpa using congrArg Array.toList d1
 subst this
 exact r.inj r'
theorem Inv.tuple_inj (I:Inv X pins σ H s) (h:SqT X.K H a xs) (h':SqT X.K H a ys):xs=ys:=by
 obtain ⟨its,r,⟨o,e,_,n,d⟩,_⟩:=I.tuple h
 obtain ⟨its',r',⟨o',e',_,n',d'⟩,_⟩:=I.tuple h'
 rw [e]at e';cases e'
 rw [d]at d'
 injection d' with d1 _
 have:its=its':=by simpa using congrArg Array.toList d1
 subst this
 exact r.inj r'
end
abbrev Cx.wish (X:Cx) (E:Value->Shared->Prop):Cx:={ X with xe:=E }
abbrev Cx.nox (X:Cx):Cx:=X.wish fun _ _=>False
theorem Cx.Ok.wish {X:Cx} (ok:X.Ok) (E:Value->Shared->Prop):(X.wish E).Ok:=
 ⟨ok.mod,ok.kind,ok.glob,ok.blt,ok.above,ok.inj,ok.has,ok.cab,ok.hd,ok.frames,ok.stk,ok.exf,ok.bs,ok.bsz,ok.noex,ok.exfs,ok.funs,ok.frf⟩
theorem Cx.Ok.unwish {X:Cx} {E:Value->Shared->Prop} (ok:(X.wish E).Ok):X.Ok:=
 ⟨ok.mod,ok.kind,ok.glob,ok.blt,ok.above,ok.inj,ok.has,ok.cab,ok.hd,ok.frames,ok.stk,ok.exf,ok.bs,ok.bsz,ok.noex,ok.exfs,ok.funs,ok.frf⟩
section
variable {X:Cx}{pins:List (Addr×Obj)}{σ:St}{H:Hp}{s:Shared}{E:Value->Shared->Prop}
theorem Inv.wish (I:Inv X pins σ H s) (E:Value->Shared->Prop):Inv (X.wish E) pins σ H s:=⟨I.ok.wish E,I.os,I.bare,I.base,I.loc,I.cell,I.free,I.freeC,I.pin,I.hok,I.len⟩
theorem Inv.unwish (I:Inv (X.wish E) pins σ H s):Inv X pins σ H s:=⟨I.ok.unwish,I.os,I.bare,I.base,I.loc,I.cell,I.free,I.freeC,I.pin,I.hok,I.len⟩
theorem SP.unwish {D:Ends} {f:Flow} {s':Shared} (h:SP (X.wish E) pins D f s'):SP X pins D f s':=by
 cases f with
 |next=>obtain ⟨σ',H',I,q⟩:=h;exact ⟨σ',H',I.unwish,q⟩
 |brk=>obtain ⟨σ',H',I,q⟩:=h;exact ⟨σ',H',I.unwish,q⟩
 |cont=>obtain ⟨σ',H',I,q⟩:=h;exact ⟨σ',H',I.unwish,q⟩
 |ret u=>obtain ⟨v,σ',H',I,r,q⟩:=h;exact ⟨v,σ',H',I.unwish,r,q⟩
theorem PSs.nox {st:List Stmt} {t:TS} (h:PSs X.nox st t):PSs X st t:=fun pins s σ H D I hw=>
 wpAny_mono (h pins s σ H D (I.wish _) hw) (fun _ _ q=>q.unwish) fun _ _ z=>False.elim z
end
section
variable {X:Cx}{st:Stmt}{rest:List Stmt}{t u:TS}{e:Expr}{te:TE}{pos:Pos}
theorem Inv.quiet {pins:List (Addr×Obj)} {σ:St} {H:Hp} {s:Shared} (I:Inv X pins σ H s):interactive X.env=false:=by simp [interactive,I.ok.kind]
def fV (te:TE):TS:=fun D σ H=>te σ H fun _ H1=>D.nx σ H1
theorem Rn (he:PE X e te) (hs:swapsWith e none pos.line X.env=pure false:=by rfl):PS X (.Expr e pos) (fV te):=by
 intro pins s σ H D I h
 exact wpAny_Expr_any (thn (he pins s σ H _ I h) fun v s1 ⟨x,H1,I1,r1,q1⟩=>⟨σ,H1,I1,q1⟩) I.quiet hs
end
abbrev TG:=V->St->Hp->(St->Hp->Prop)->Prop
abbrev TGs:=List V->St->Hp->(St->Hp->Prop)->Prop
def PG (X:Cx) (target:Expr) (t:TG):Prop:=
 ∀(pins:List (Addr×Obj)) (s:Shared) (σ:St) (H:Hp) (v:V) (u:Value) (Q:St->Hp->Prop),Inv X pins σ H s->RelV v u->t v σ H Q →
  wpAny (model X.prog X.w) X.A (assign target X.env u) (fun _ s'=>∃σ' H',Inv X pins σ' H' s'/\Q σ' H') X.xe s
def PGs (X:Cx) (ts:List Expr) (t:TGs):Prop:=
 ∀(pins:List (Addr×Obj)) (s:Shared) (σ:St) (H:Hp) (vs:List V) (us:List Value) (Q:St->Hp->Prop),Inv X pins σ H s->Vals vs us->t vs σ H Q →
  wpAny (model X.prog X.w) X.A (assignInOrder ((assignEach ts X.env).map (·.2)) us) (fun _ s'=>∃σ' H',Inv X pins σ' H' s'/\Q σ' H') X.xe s
section
variable {X:Cx}{pos:Pos}
def Yw (i:Nat):TG:=fun v σ H Q=>Q (σ.set i (some v)) H
theorem NP {i:Nat} {x:Str} (hN:X.N.Nodup) (hi:X.N[i]?=some x) (hx:Loc X.env.scope x) (hf:X.fn x=true\/X.env.scope.names.lookup x=some .local:=by first|exact .inl rfl|exact .inr rfl|assumption):PG X (.Name x pos) (Yw i):=by
 intro pins s σ H v u Q I r h
 exact wpAny_assign_Name (HQ I hN hi hx r (fun s' I'=>⟨_,H,I',h⟩) hf)
def jT:TGs:=fun vs σ H Q=>vs=[]/\Q σ H
def d0 (t:TG) (u:TGs):TGs:=fun vs σ H Q=>∃v r,vs=v::r/\t v σ H fun σ' H'=>u r σ' H' Q
theorem Xn:PGs X [] jT:=by
 intro pins s σ H vs us Q I r h
 obtain ⟨e,h⟩:=h
 subst e
 cases r
 exact assignInOrder_nil ⟨σ,H,I,h⟩
theorem OL {e:Expr} {es:List Expr} {t:TG} {u:TGs} (h1:PG X e t) (h2:PGs X es u)
  (hs:(assignEach (e::es) X.env).map (·.2)=assign e X.env::(assignEach es X.env).map (·.2):=by rfl):PGs X (e::es) (d0 t u):=by
 intro pins s σ H vs us Q I r h
 obtain ⟨v,vr,e1,h⟩:=h
 subst e1
 cases r with
 |cons r rr=>
  rw [hs]
  refine assignInOrder_cons (thn (h1 pins s σ H _ _ _ I r h) fun _ s1 ⟨σ1,H1,I1,q1⟩=>?_)
  exact h2 pins s1 σ1 H1 _ _ Q I1 rr q1
def lE (K:PySem.W.Frag) (n:Nat) (t:TGs):TG:=fun v σ H Q=>∃a xs,v=.ref a/\SqT K H a xs/\xs.length=n/\t xs σ H Q
theorem cG {es:List Expr} {k:Nat} {t:TGs} {n:Nat} (hc:X.calm=true) (h:PGs X es t)
  (hn:(assignEach es X.env).length=n:=by rfl) (D4:(assignEach es X.env).findIdx? (·.1)=none:=by rfl):PG X (.Tuple es k pos) (lE X.K n t):=by
 intro pins s σ H v u Q I r hw
 obtain ⟨a,xs,e1,hq,hl,hw⟩:=hw
 subst e1
 cases r
 obtain ⟨its,rv,ht,hz⟩:=I.tuple hq
 refine assign_Tuple_tuple (I.ok.hd hc) ht (by simp [hn,<-hl,rv.length]) D4 fun h' hx=>?_
 have I1:Inv X pins σ H { s with heap:=h' }:=I.kept (t':=s.toks) fun b o e=>hx b o (Nat.ne_of_lt (Heap.lt_size e)) e
 exact h pins _ σ H xs _ Q I1 (by simpa using rv) hw
def oO (te:TE) (g:TG):TS:=fun D σ H=>te σ H fun x H1=>g x σ H1 D.nx
theorem QI {i:Nat} {x:Str} {e:Expr} {te:TE} {pos':Pos} (hN:X.N.Nodup) (hi:X.N[i]?=some x) (hx:Loc X.env.scope x) (he:PE X e te) (hs:swapsWith e (some (.Name x pos')) pos.line X.env=pure false:=by rfl) (hf:X.fn x=true\/X.env.scope.names.lookup x=some .local:=by first|exact .inl rfl|exact .inr rfl|assumption) :
  PS X (.Assign [.Name x pos'] e pos) (oO te (Yw i)):=by
 intro pins s σ H D I h
 refine wpAny_Assign_Name (thn (he pins s σ H _ I h) fun v s1 ⟨y,H1,I1,r1,q1⟩=>?_) hs
 exact HQ I1 hN hi hx r1 (fun s2 I2=>⟨_,H1,I2,q1⟩) hf
end
structure It where
 go:Nat->Hp->Prop
 yld:Nat->Hp->V->Hp->Prop
 stop:Nat->Hp->Prop
def IP (X:Cx) (pins:List (Addr×Obj)) (H:Hp) (b:Addr):Prop:=
 H b=none/\b≠X.env.locals/\b∉X.fs/\(b∈X.ex\/X.s₀.heap.objs.size≤b)/\(∀x c,X.env.cells.lookup x=some c->c≠b)/\∀p∈X.pn++pins,p.1≠b
theorem Inv.fpOk {X:Cx} {pins:List (Addr×Obj)} {σ:St} {H H':Hp} {s:Shared} {b:Addr} (I:Inv X pins σ H s) (hb:s.heap.objs.size≤b) (hn:H' b=none):IP X pins H' b:=by
 refine ⟨hn,Nat.ne_of_gt (Nat.lt_of_lt_of_le I.lt hb),I.nofs hb,.inr (Nat.le_trans I.sz hb),fun x c e z=>?_,fun p hp z=>?_⟩
 ·obtain ⟨v,q⟩:=I.cell x c e
  exact absurd (Nat.lt_of_lt_of_le q.lt (by rw [z];exact hb)) (Nat.lt_irrefl _)
 ·exact absurd (Nat.lt_of_lt_of_le (Heap.lt_size (I.pin p hp).1) (by rw [z];exact hb)) (Nat.lt_irrefl _)
structure Turn (P:Program) (w:World) (K:PySem.W.Frag) (tg:Expr) (J:It) (fp:List Addr) (it:Addr) (tn:Nat->Heap->Prop):Prop where
 mem:it∈fp
 obj:∀i h,tn i h->∀b∈fp,∃o,h.get? b=some o/\∀v,o.data≠.cell v
 keep:∀i h h',tn i h->(∀b∈fp,∀o,h.get? b=some o->h'.get? b=some o)->tn i h'
 item:∀(X:Cx),X.prog=P->X.w=w->X.K=K->X.calm=true->∀(i:Nat) (pins:List (Addr×Obj)) (s:Shared) (σ:St) (H:Hp) (E:Value->Shared->Prop),Inv X pins σ H s->(∀b∈fp,IP X pins H b)->tn i s.heap->J.go i H →
  wpAny (model P w) X.A (pyNext (.ref it)) (fun r s1=>∃u,r=some u ∧
   wpAny (model P w) X.A (letOwnedTupleGo tg (.ref it) u) (fun _ s2=>∃x H',Inv X pins σ H' s2/\RelV x u/\J.yld i H x H'/\tn (i+1) s2.heap/\∀b∈fp,H' b=none) E s1) E s
 done:∀(X:Cx),X.prog=P->X.w=w->X.K=K->X.calm=true->∀(i:Nat) (pins:List (Addr×Obj)) (s:Shared) (σ:St) (H:Hp) (E:Value->Shared->Prop),Inv X pins σ H s->(∀b∈fp,IP X pins H b)->tn i s.heap->J.stop i H →
  wpAny (model P w) X.A (pyNext (.ref it)) (fun r s1=>r=none/\Inv X pins σ H s1) E s
 self:∀(A:Around) (i:Nat) (s:Shared) (Q:Value->Shared->Prop) (E:Value->Shared->Prop),tn i s.heap->Q (.ref it) s->wpAny (model P w) A (pyIter (.ref it)) Q E s
abbrev TI:=St->Hp->(It->Hp->Prop)->Prop
def PIE (X:Cx) (pins:List (Addr×Obj)) (σ:St) (tg:Expr) (R:It->Hp->Prop) (gC:Value) (s2:Shared):Prop:=
 ∃(it:Addr) (fp:List Addr) (tn:Nat->Heap->Prop) (J:It) (H':Hp),gC=.ref it/\Inv X pins σ H' s2/\Turn X.prog X.w X.K tg J fp it tn/\tn 0 s2.heap/\(∀b∈fp,IP X pins H' b)/\R J H'
def PI (X:Cx) (tg iter:Expr) (wi:TI):Prop:=
 ∀(pins:List (Addr×Obj)) (s:Shared) (σ:St) (H:Hp) (R:It->Hp->Prop),Inv X pins σ H s->wi σ H R →
  wpAny (model X.prog X.w) X.A (eval iter X.env) (fun v s1=>wpAny (model X.prog X.w) X.A (pyIter v) (PIE X pins σ tg R) X.xe s1) X.xe s
theorem Ra {M : Model} {A : Around} {E : Value → Shared → Prop} {s : Shared} {tg : Expr} {it : Addr} {u : Value} {o : Obj} {n : String} {vs : Array Value} {Q : Unit → Shared → Prop} (ho : s.heap.get? it = some o) (hc : o.cls = .type n) (hd : o.data = .fields vs)
    (hn : ["enumerate", "zip", "dict_itemiterator", "dict_reverseitemiterator", "odict_iterator", "itertools.zip_longest", "itertools.pairwise"].contains n = false) (hQ : Q () s) : wpAny M A (letOwnedTupleGo tg (.ref it) u) Q E s := by
  unfold letOwnedTupleGo
  cases tg <;> first
    | exact wpAny_pure hQ
    | (cases u <;> first
        | exact wpAny_pure hQ
        | (refine wpAny_bind (wpAny_load ho ?_)
           rw [hc, hd]
           show wpAny M A (if (["enumerate", "zip", "dict_itemiterator", "dict_reverseitemiterator", "odict_iterator", "itertools.zip_longest", "itertools.pairwise"].contains n && vs[0]? == some (rawInt _)) = true then _ else _) Q E s
           rw [if_neg (by intro h; rw [hn, Bool.false_and] at h; cases h)]
           exact wpAny_pure hQ))
def Itl (K:PySem.W.Frag) (a:Addr):It:=
 ⟨fun i H=>∃xs x,SqL K H a xs/\xs[i]?=some x,fun i H x H'=>H'=H/\∀xs,SqL K H a xs->xs[i]?=some x,fun i H=>∃xs,SqL K H a xs/\xs.length≤i⟩
def Itt (K:PySem.W.Frag) (a:Addr):It:=
 ⟨fun i H=>∃xs x,SqT K H a xs/\xs[i]?=some x,fun i H x H'=>H'=H/\∀xs,SqT K H a xs->xs[i]?=some x,fun i H=>∃xs,SqT K H a xs/\xs.length≤i⟩
def Itr (lo:Int) (n:Nat):It:=⟨fun i _=>i<n,fun i H x H'=>H'=H/\x=.int (lo+i),fun i _=>n≤i⟩
theorem Sy {P:Program} {w:World} {K:PySem.W.Frag} {tg:Expr} (a it:Addr):Turn P w K tg (Itl K a) [it] it (fun i h=>h.IsListIter it a i) where
 mem:=by simp
 obj:=fun i h st b hb=>by
  have e:b=it:=by simpa using hb
  subst e
  obtain ⟨o,e,c,d⟩:=st
  exact ⟨o,e,fun v z=>by rw [d]at z;cases z⟩
 keep:=fun i h h' st k=>st.at fun o e=>k it (by simp) o e
 item:=by
  intro X hP hw hK hc i pins s σ H E I hf st hg
  subst hP hw hK
  obtain ⟨xs,x,hq,hx⟩:=hg
  obtain ⟨its,rv,p,hz⟩:=I.list hq
  obtain ⟨u,hu,ru⟩:=rv.get hx
  obtain ⟨f0,f1,f2,f3,f4,f5⟩:=hf it (by simp)
  refine wpAny_pyNext_list_item st p.isList (x:=u) (by simpa using hu) fun h' AO sb=>?_
  have I1:Inv X pins σ H { s with heap:=h' }:=I.turned (t':=s.toks) (fun b o hb e=>(sb.2 b hb).trans e) f0 f1 f3 f4 f5
  obtain ⟨o,e,c,d⟩:=id AO
  exact ⟨u,rfl,Ra (s:={ s with heap:=h' }) e c d (by decide) ⟨x,H,I1,ru,⟨rfl,fun ys hy=>by rw [I.list_inj hy hq];exact hx⟩,AO,fun b hb=>(hf b hb).1⟩⟩
 done:=by
  intro X hP hw hK hc i pins s σ H E I hf st hg
  subst hP hw hK
  obtain ⟨xs,hq,hx⟩:=hg
  obtain ⟨its,rv,p,hz⟩:=I.list hq
  obtain ⟨f0,f1,f2,f3,f4,f5⟩:=hf it (by simp)
  have hl:=rv.length
  exact wpAny_pyNext_list_end (I.ok.hd hc) st p.isList (by simp;lia) fun h' eb=>⟨rfl,I.turned (t':=s.toks) (fun b o hb e=>eb b o hb e) f0 f1 f3 f4 f5⟩
 self:=fun _ _ _ _ _ st h=>wpAny_pyIter_listiter st h
theorem Q0 {P:Program} {w:World} {K:PySem.W.Frag} {tg:Expr} (a it:Addr):Turn P w K tg (Itt K a) [it] it (fun i h=>h.IsTupleIter it a i) where
 mem:=by simp
 obj:=fun i h st b hb=>by
  have e:b=it:=by simpa using hb
  subst e
  obtain ⟨o,e,c,d⟩:=st
  exact ⟨o,e,fun v z=>by rw [d]at z;cases z⟩
 keep:=fun i h h' st k=>st.at fun o e=>k it (by simp) o e
 item:=by
  intro X hP hw hK hc i pins s σ H E I hf st hg
  subst hP hw hK
  obtain ⟨xs,x,hq,hx⟩:=hg
  obtain ⟨its,rv,p,hz⟩:=I.tuple hq
  obtain ⟨u,hu,ru⟩:=rv.get hx
  obtain ⟨f0,f1,f2,f3,f4,f5⟩:=hf it (by simp)
  refine wpAny_pyNext_tuple_item st (show s.heap.IsTuple a its.toArray from p) (x:=u) (by simpa using hu) fun h' AO sb=>?_
  have I1:Inv X pins σ H { s with heap:=h' }:=I.turned (t':=s.toks) (fun b o hb e=>(sb.2 b hb).trans e) f0 f1 f3 f4 f5
  obtain ⟨o,e,c,d⟩:=id AO
  exact ⟨u,rfl,Ra (s:={ s with heap:=h' }) e c d (by decide) ⟨x,H,I1,ru,⟨rfl,fun ys hy=>by rw [I.tuple_inj hy hq];exact hx⟩,AO,fun b hb=>(hf b hb).1⟩⟩
 done:=by
  intro X hP hw hK hc i pins s σ H E I hf st hg
  subst hP hw hK
  obtain ⟨xs,hq,hx⟩:=hg
  obtain ⟨its,rv,p,hz⟩:=I.tuple hq
  obtain ⟨f0,f1,f2,f3,f4,f5⟩:=hf it (by simp)
  have hl:=rv.length
  exact wpAny_pyNext_tuple_end (I.ok.hd hc) st (show s.heap.IsTuple a its.toArray from p) (by simp;lia) fun h' eb=>⟨rfl,I.turned (t':=s.toks) (fun b o hb e=>eb b o hb e) f0 f1 f3 f4 f5⟩
 self:=fun _ _ _ _ _ st h=>wpAny_pyIter_tupleiter st h
theorem Qr {P:Program} {w:World} {K:PySem.W.Frag} {tg:Expr} (it:Addr) (lo:Int) (n:Nat):Turn P w K tg (Itr lo n) [it] it (fun i h=>IsRangeIter h it (lo+(i:Nat)*1) ((n:Int)-(i:Nat)) 1) where
 mem:=by simp
 obj:=fun i h st b hb=>by
  have e:b=it:=by simpa using hb
  subst e
  exact ⟨_,st,fun v z=>by
   have z':Data.fields _=Data.cell v:=z
   cases z'⟩
 keep:=fun i h h' st k=>k it (by simp) _ st
 item:=by
  intro X hP hw hK hc i pins s σ H E I hf st hg
  subst hP hw hK
  obtain ⟨f0,f1,f2,f3,f4,f5⟩:=hf it (by simp)
  have W:=Walks.range (prog:=X.prog) (w:=X.w) (I.ok.hd hc) it lo 1 n
  refine W.item i s _ _ hg st fun v h' tk hv AO kk=>?_
  obtain ⟨t,rfl⟩:=hv
  have I1:Inv X pins σ H { s with heap:=h',toks:=tk }:=I.turned (fun b o hb e=>kk b o (by simpa using hb) e) f0 f1 f3 f4 f5
  refine ⟨_,rfl,Ra (s:={ s with heap:=h',toks:=tk }) (n:="range_iterator") AO rfl rfl (by decide) ⟨.int (lo+i),H,I1,⟨t,?_⟩,⟨rfl,rfl⟩,AO,fun b hb=>(hf b hb).1⟩⟩
  rw [Int.mul_one]
 done:=by
  intro X hP hw hK hc i pins s σ H E I hf st hg
  subst hP hw hK
  obtain ⟨f0,f1,f2,f3,f4,f5⟩:=hf it (by simp)
  exact wpAny_pyNext_range_end (I.ok.hd hc) st (by have:n≤i:=hg;lia) fun h' eb=>⟨rfl,I.turned (t':=s.toks) (fun b o hb e=>eb b o hb e) f0 f1 f3 f4 f5⟩
 self:=fun _ _ _ _ _ st h=>wpAny_pyIter_rangeiter st h
section
variable {X:Cx}{tg:Expr}
def fB (K:PySem.W.Frag) (tl:TE):TI:=fun σ H R=>tl σ H fun x H1=>∃a,x=.ref a/\(∃xs,SqL K H1 a xs)/\R (Itl K a) H1
def pk (K:PySem.W.Frag) (tl:TE):TI:=fun σ H R=>tl σ H fun x H1=>∃a,x=.ref a/\(∃xs,SqT K H1 a xs)/\R (Itt K a) H1
theorem Ym {l:Expr} {tl:TE} (hl:PE X l tl):PI X tg l (fB X.K tl):=by
 intro pins s σ H R I h
 refine thn (hl pins s σ H _ I h) fun v s1 ⟨x,H1,I1,r1,q1⟩=>?_
 obtain ⟨a,e,⟨xs,hq⟩,q⟩:=q1
 subst e
 cases r1
 obtain ⟨its,rv,p,hz⟩:=I1.list hq
 refine wpAny_pyIter_list p.isList ?_
 refine ⟨s1.heap.objs.size,[s1.heap.objs.size],_,_,H1,rfl,I1.kept (t':=s1.toks) fun b o e=>Heap.get?_push_of_some _ e,Sy a _,⟨_,Heap.get?_push_size _ rfl,rfl,rfl⟩,fun b hb=>?_,q⟩
 have e:b=s1.heap.objs.size:=by simpa using hb
 subst e
 exact I1.fpOk (Nat.le_refl _) (I1.hok.fresh (Nat.le_refl _))
theorem ba {l:Expr} {tl:TE} (hl:PE X l tl):PI X tg l (pk X.K tl):=by
 intro pins s σ H R I h
 refine thn (hl pins s σ H _ I h) fun v s1 ⟨x,H1,I1,r1,q1⟩=>?_
 obtain ⟨a,e,⟨xs,hq⟩,q⟩:=q1
 subst e
 cases r1
 obtain ⟨its,rv,p,hz⟩:=I1.tuple hq
 refine wpAny_pyIter_tuple (show s1.heap.IsTuple a its.toArray from p) ?_
 refine ⟨s1.heap.objs.size,[s1.heap.objs.size],_,_,H1,rfl,I1.kept (t':=s1.toks) fun b o e=>Heap.get?_push_of_some _ e,Q0 a _,⟨_,Heap.get?_push_size _ rfl,rfl,rfl⟩,fun b hb=>?_,q⟩
 have e:b=s1.heap.objs.size:=by simpa using hb
 subst e
 exact I1.fpOk (Nat.le_refl _) (I1.hok.fresh (Nat.le_refl _))
theorem WC {pins:List (Addr×Obj)} {σ:St} {H:Hp} {s:Shared} {R:It->Hp->Prop} {E:Value->Shared->Prop} {lo hi:Int} {t u v:Tok} {tk:Nat} (I:Inv X pins σ H s) (h1:-(2 ^ 62)≤lo) (h2:lo<2 ^ 62) (h3:-(2 ^ 62)≤hi) (h4:hi<2 ^ 62)
  (q:R (Itr lo (hi-lo).toNat) H):wpAny (model X.prog X.w) X.A (pyIter (.ref s.heap.objs.size)) (PIE X pins σ tg R) E { s with heap:=s.heap.push { cls:=.type "range",data:=.fields #[.int lo t,.int hi u,.int 1 v] },toks:=tk }:=by
 refine wpAny_pyIter_range (IsRange.new ..) (small_one h1 h2 h3 h4) ?_
 have I1:Inv X pins σ H { s with heap:=s.heap.push { cls:=.type "range",data:=.fields #[.int lo t,.int hi u,.int 1 v] },toks:=tk }:=I.kept fun b o e=>Heap.get?_push_of_some _ e
 refine ⟨(s.heap.push { cls:=.type "range",data:=.fields #[.int lo t,.int hi u,.int 1 v] }).objs.size,[(s.heap.push { cls:=.type "range",data:=.fields #[.int lo t,.int hi u,.int 1 v] }).objs.size],_,_,H,rfl,
  I1.kept (t':=tk) fun b o e=>Heap.get?_push_of_some _ e,Qr _ lo (hi-lo).toNat,?_,fun b hb=>?_,q⟩
 ·have e1:lo+((0:Nat):Int)*1=lo:=by simp
  have e2:(((hi-lo).toNat:Nat):Int)-((0:Nat):Int)=Builtin.Range.rangeSize lo hi 1:=by rw [rangeSize_one];split<;>lia
  show IsRangeIter _ _ (lo+((0:Nat):Int)*1) ((((hi-lo).toNat:Nat):Int)-((0:Nat):Int)) 1
  rw [e1,e2]
  exact Heap.get?_push_size _ rfl
 ·have e:b=(s.heap.push { cls:=.type "range",data:=.fields #[.int lo t,.int hi u,.int 1 v] }).objs.size:=by simpa using hb
  subst e
  exact I1.fpOk (Nat.le_refl _) (I1.hok.fresh (Nat.le_refl _))
def eI (ta:TA):TI:=fun σ H R=>ta σ H fun vs H1=>∃j:Int,vs=[.int j]/\-(2 ^ 62)≤j/\j<2 ^ 62/\R (Itr 0 j.toNat) H1
theorem Tq {a:Expr} {ta:TA} {p pos:Pos} (hg:Gl X "range") (hm:X.mg "range"=none) (ha:PA X [a] ta) (hs:starEach [a] X.env=[(false,eval a X.env)]:=by rfl):PI X tg (.Call (.Name "range" p) [a] [] pos) (eI ta):=by
 intro pins s σ H R I h
 refine Call_ (Cr I hg hm boot_range (PyProof.Rows.callWith_type1 (thn (ha pos pins s σ H _ I h) fun us s1 ⟨vs,H1,I1,r1,q1⟩=>?_) hs rfl))
 obtain ⟨j,e,q1,q2,q⟩:=q1
 subst e
 cases r1 with
 |cons r rr=>
  cases rr
  obtain ⟨t,rfl⟩:=r
  exact call_range_1 (WC I1 (by lia) (by lia) q1 q2 (by simpa using q))
def Ml (fp:List Addr) (h:Heap):List (Addr×Obj):=fp.filterMap fun b=>(h.get? b).map fun o=>(b,o)
theorem ES {fp:List Addr} {h:Heap} {b:Addr} {o:Obj} (hb:b∈fp) (e:h.get? b=some o):(b,o)∈Ml fp h:=List.mem_filterMap.mpr ⟨b,hb,by rw [e];rfl⟩
theorem TM {fp:List Addr} {h:Heap} {p:Addr×Obj} (hp:p∈Ml fp h):p.1∈fp/\h.get? p.1=some p.2:=by
 obtain ⟨b,hb,e⟩:=List.mem_filterMap.mp hp
 cases q:h.get? b with
 |none=>rw [q]at e;cases e
 |some o=>
  rw [q]at e
  have e':(b,o)=p:=Option.some.inj e
  subst e'
  exact ⟨hb,q⟩
theorem Inv.pinned {pins:List (Addr×Obj)} {σ:St} {H:Hp} {s:Shared} {fp:List Addr} (I:Inv X pins σ H s) (hf:∀b∈fp,IP X pins H b) (ho:∀b∈fp,∃o,s.heap.get? b=some o/\∀v,o.data≠.cell v):Inv X (pins++Ml fp s.heap) σ H s:=
 I.pins_of fun p hp=>(List.mem_append.mp hp).elim (fun z=>I.pin p (List.mem_append_right _ z)) fun z=>by
  obtain ⟨hb,e⟩:=TM z
  obtain ⟨f0,f1,f2,_⟩:=hf p.1 hb
  obtain ⟨o,e',d⟩:=ho p.1 hb
  rw [e]at e';cases e'
  exact ⟨e,f0,f1,f2,d⟩
theorem Inv.unpinned {pins pl:List (Addr×Obj)} {σ:St} {H:Hp} {s:Shared} (I:Inv X (pins++pl) σ H s):Inv X pins σ H s:=I.pins_of fun p hp=>I.pin p (List.mem_append_right _ (List.mem_append_left _ hp))
end
abbrev R2:=V->V->Hp->VK->Prop
def OpR (X:Cx) (f:Value->Value->Sem Value) (r:R2):Prop:=
 ∀(pins:List (Addr×Obj)) (s:Shared) (σ:St) (H:Hp) (x y:V) (v u:Value) (Q:VK),Inv X pins σ H s->RelV x v->RelV y u->r x y H Q →
  wpAny (model X.prog X.w) X.A (f v u) (EP X pins σ Q) X.xe s
def UnR (X:Cx) (f:Value->Sem Value) (r:V->Hp->VK->Prop):Prop:=
 ∀(pins:List (Addr×Obj)) (s:Shared) (σ:St) (H:Hp) (x:V) (v:Value) (Q:VK),Inv X pins σ H s->RelV x v->r x H Q →
  wpAny (model X.prog X.w) X.A (f v) (EP X pins σ Q) X.xe s
def C2 (X:Cx) (f:Value) (r:List V->Hp->VK->Prop):Prop:=
 ∀(pins:List (Addr×Obj)) (s:Shared) (σ:St) (H:Hp) (xs:List V) (us:List Value) (Q:VK),Inv X pins σ H s->Vals xs us->r xs H Q →
  wpAny (model X.prog X.w) X.A (call f us) (EP X pins σ Q) X.xe s
def lV (X:Cx) (r:V->Hp->(Bool->Hp->Prop)->Prop):Prop:=
 ∀(pins:List (Addr×Obj)) (s:Shared) (σ:St) (H:Hp) (x:V) (v:Value) (Q:Bool->Hp->Prop),Inv X pins σ H s->RelV x v->r x H Q →
  wpAny (model X.prog X.w) X.A (truthy v) (TP X pins σ Q) X.xe s
def tOp (r:R2) (ta tb:TE):TE:=fun σ H Q=>ta σ H fun x H1=>tb σ H1 fun y H2=>r x y H2 Q
def tUn (r:V->Hp->VK->Prop) (ta:TE):TE:=fun σ H Q=>ta σ H fun x H1=>r x H1 Q
def rI (C:Int->Int->Prop) (g:Int->Int->V):R2:=fun x y H Q=>∃i j,x=.int i/\y=.int j/\C i j/\Q (g i j) H
def rI0 (g:Int->Int->V):R2:=fun x y H Q=>∃i j,x=.int i/\y=.int j/\Q (g i j) H
def rU (g:Int->V):V->Hp->VK->Prop:=fun x H Q=>∃i,x=.int i/\Q (g i) H
section
variable {X:Cx}{a b c:Expr}{ta tb tc:TE}{pos:Pos}
theorem ee (ha:PE X a ta) (hb:PE X b tb) {pins:List (Addr×Obj)} {s:Shared} {σ:St} {H:Hp} {R:V->V->Hp->Prop} (I:Inv X pins σ H s)
  (h:ta σ H fun x H1=>tb σ H1 fun y H2=>R x y H2) {Q:Value->Shared->Prop} {f:Value->Value->Sem Value}
  (hf:∀v u s2 x y H2,Inv X pins σ H2 s2->RelV x v->RelV y u->R x y H2->wpAny (model X.prog X.w) X.A (f v u) Q X.xe s2) :
  wpAny (model X.prog X.w) X.A (eval a X.env) (fun v s₁=>wpAny (model X.prog X.w) X.A (eval b X.env) (fun u s₂=>wpAny (model X.prog X.w) X.A (f v u) Q X.xe s₂) X.xe s₁) X.xe s:=by
 refine thn (ha pins s σ H _ I h) fun v s1 ⟨x,H1,I1,r1,q1⟩=>?_
 refine thn (hb pins s1 σ H1 _ I1 q1) fun u s2 ⟨y,H2,I2,r2,q2⟩=>?_
 exact hf v u s2 x y H2 I2 r1 r2 q2
theorem Y6 {op:Operator} {r:R2} (ho:OpR X (binaryOp op) r) (ha:PE X a ta) (hb:PE X b tb):PE X (.BinOp a op b pos) (tOp r ta tb):=by
 intro pins s σ H Q I h
 exact wpAny_BinOp (ee ha hb I h fun v u s2 x y H2 I2 rx ry q=>ho pins s2 σ H2 x y v u Q I2 rx ry q)
theorem fZ {op:UnaryOp} {r:V->Hp->VK->Prop} (ho:UnR X (unaryOp op) r) (ha:PE X a ta):PE X (.UnaryOp op a pos) (tUn r ta):=by
 intro pins s σ H Q I h
 exact UnaryOp_ (thn (ha pins s σ H _ I h) fun v s1 ⟨x,H1,I1,r1,q1⟩=>ho pins s1 σ H1 x v Q I1 r1 q1)
theorem opI {f:Value->Value->Sem Value} {C:Int->Int->Prop} {g:Int->Int->Int}
  (rule:∀(i j:Int) (t u:Tok) (s:Shared) (Q:Value->Shared->Prop) (E:Value->Shared->Prop),C i j->Q (.int (g i j) s.toks) { s with toks:=s.toks+1 }->wpAny (model X.prog X.w) X.A (f (.int i t) (.int j u)) Q E s) :
  OpR X f (rI C fun i j=>.int (g i j)):=by
 intro pins s σ H x y v u Q I rx ry h
 obtain ⟨i,j,rfl,rfl,hc,q⟩:=h
 obtain ⟨t,rfl⟩:=rx
 obtain ⟨t',rfl⟩:=ry
 exact rule i j t t' s _ _ hc ⟨.int (g i j),H,I.tok _,⟨_,rfl⟩,q⟩
theorem dk {f:Value->Value->Sem Value} {g:Int->Int->Int}
  (rule:∀(i j:Int) (t u:Tok) (s:Shared) (Q:Value->Shared->Prop) (E:Value->Shared->Prop),Q (.int (g i j) s.toks) { s with toks:=s.toks+1 }->wpAny (model X.prog X.w) X.A (f (.int i t) (.int j u)) Q E s) :
  OpR X f (rI0 fun i j=>.int (g i j)):=by
 intro pins s σ H x y v u Q I rx ry h
 obtain ⟨i,j,rfl,rfl,q⟩:=h
 obtain ⟨t,rfl⟩:=rx
 obtain ⟨t',rfl⟩:=ry
 exact rule i j t t' s _ _ ⟨.int (g i j),H,I.tok _,⟨_,rfl⟩,q⟩
theorem aA {f:Value->Value->Sem Value} {g:Int->Int->Bool}
  (rule:∀(i j:Int) (t u:Tok) (s:Shared) (Q:Value->Shared->Prop) (E:Value->Shared->Prop),Q (.bool (g i j)) s->wpAny (model X.prog X.w) X.A (f (.int i t) (.int j u)) Q E s) :
  OpR X f (rI0 fun i j=>.bl (g i j)):=by
 intro pins s σ H x y v u Q I rx ry h
 obtain ⟨i,j,rfl,rfl,q⟩:=h
 obtain ⟨t,rfl⟩:=rx
 obtain ⟨t',rfl⟩:=ry
 exact rule i j t t' s _ _ ⟨.bl (g i j),H,I,rfl,q⟩
def fi (i j:Int):Prop:=0<j/\j<1073741824
def CMul (i j:Int):Prop:=(-(2 ^ 64)<i/\i<2 ^ 64)\/(-(2 ^ 64)<j/\j<2 ^ 64)
theorem CMul.ok {i j:Int} (h:CMul i j):IntMulOk i j:=by
 rcases h with ⟨h1,h2⟩|⟨h1,h2⟩
 ·exact .of_left (intBits_le_64 h1 h2)
 ·exact .of_right (intBits_le_64 h1 h2)
theorem aq:OpR X (binaryOp .Add) (rI0 fun i j=>.int (i+j)):=dk fun _ _ _ _ _ _ _ q=>add_int q
theorem bR:OpR X (binaryOp .Sub) (rI0 fun i j=>.int (i-j)):=dk fun _ _ _ _ _ _ _ q=>sub_int q
theorem aN:OpR X (binaryOp .Mult) (rI CMul fun i j=>.int (i*j)):=opI fun _ _ _ _ _ _ _ hc q=>mul_int q hc.ok
theorem Xf:OpR X (binaryOp .FloorDiv) (rI fi fun i j=>.int (i / j)):=opI fun i j _ _ _ _ _ hc q=>by
 have h1:(0:Int)<j:=hc.1
 have h2:j<1073741824:=hc.2
 exact floordiv_int (by lia) (by rw [Int.fdiv_eq_ediv_of_nonneg i (by lia)];exact q) (.inl (PyProof.noPylong_small (by lia)))
theorem ag:OpR X (binaryOp .Mod) (rI (fun _ j=>0<j) fun i j=>.int (i%j)):=opI fun i j _ _ _ _ _ hc q=>by
 have h1:(0:Int)<j:=hc
 exact mod_int' (by lia) (by rw [Int.fmod_eq_emod_of_nonneg i (by lia)];exact q)
theorem unI {f:Value->Sem Value} {g:Int->Int}
  (rule:∀(i:Int) (t:Tok) (s:Shared) (Q:Value->Shared->Prop) (E:Value->Shared->Prop),Q (.int (g i) s.toks) { s with toks:=s.toks+1 }->wpAny (model X.prog X.w) X.A (f (.int i t)) Q E s) :
  UnR X f (rU fun i=>.int (g i)):=by
 intro pins s σ H x v Q I rx h
 obtain ⟨i,rfl,q⟩:=h
 obtain ⟨t,rfl⟩:=rx
 exact rule i t s _ _ ⟨.int (g i),H,I.tok _,⟨_,rfl⟩,q⟩
theorem Zj:UnR X (unaryOp .USub) (rU fun i=>.int (-i)):=unI fun _ _ _ _ _ q=>neg_int q
end
def fF:V->V->Bool
 |.non,.non=>true|.non,.int _=>true|.int _,.non=>true|.non,.bl _=>true|.bl _,.non=>true|.non,.str _=>true|.str _,.non=>true
 |.int _,.int _=>true|.bl _,.bl _=>true|.str _,.str _=>true|.byt _,.byt _=>true
 |.int _,.str _=>true|.str _,.int _=>true|.bl _,.str _=>true|.str _,.bl _=>true
 |_,_=>false
def rEq:R2:=fun x y H Q=>fF x y=true/\Q (.bl (decide (x=y))) H
def rNe:R2:=fun x y H Q=>fF x y=true/\Q (.bl (!decide (x=y))) H
theorem Jf {i j:Int}:decide (V.int i=V.int j)=(i==j):=by
 rw [Bool.eq_iff_iff]
 simp
theorem Ux {i j:Bool}:decide (V.bl i=V.bl j)=(i==j):=by
 rw [Bool.eq_iff_iff]
 simp
theorem Jj {i j:Str}:decide (V.str i=V.str j)=(i==j):=by
 rw [Bool.eq_iff_iff]
 simp
theorem Rp {i j:Array UInt8}:decide (V.byt i=V.byt j)=(i.toList==j.toList):=by
 rw [Bool.eq_iff_iff]
 cases i
 cases j
 simp
section
variable {X:Cx}{a b c:Expr}{ta tb tc:TE}{pos:Pos}
theorem Al {pins:List (Addr×Obj)} {σ:St} {H:Hp} {s:Shared} {Q:VK} {k k':Bool} (I:Inv X pins σ H s) (q:Q (.bl k) H) (e:k=k'):EP X pins σ Q (.bool k') s:=by
 subst e
 exact ⟨.bl k,H,I,rfl,q⟩
theorem Y8:OpR X (compareOp .Eq) rEq:=by
 intro pins s σ H x y v u Q I rx ry h
 obtain ⟨hs,q⟩:=h
 cases x with
 |non=>
  cases rx
  cases y with
  |non=>cases ry;exact PySem.EqNone.eq_none_none (Al I q (by simp))
  |bl j=>cases ry;exact PySem.EqNone.eq_none_bool (Al I q (by simp))
  |int j=>obtain ⟨t',rfl⟩:=ry;exact PySem.EqNone.eq_none_int (Al I q (by simp))
  |str j=>obtain ⟨t',rfl⟩:=ry;exact PySem.EqNone.eq_none_str (Al I q (by simp))
  |_=>exact absurd (show false=true from hs) Bool.false_ne_true
 |bl i=>
  cases rx
  cases y with
  |non=>cases ry;exact PySem.EqNone.eq_bool_none (Al I q (by simp))
  |bl j=>cases ry;exact eq_bool (Al I q Ux)
  |str j=>obtain ⟨t',rfl⟩:=ry;exact PySem.EqMixed.eq_bool_str (Al I q (by simp))
  |_=>exact absurd (show false=true from hs) Bool.false_ne_true
 |int i=>
  obtain ⟨t,rfl⟩:=rx
  cases y with
  |non=>cases ry;exact PySem.EqNone.eq_int_none (Al I q (by simp))
  |int j=>obtain ⟨t',rfl⟩:=ry;exact eq_int (Al I q Jf)
  |str j=>obtain ⟨t',rfl⟩:=ry;exact PySem.EqMixed.eq_int_str (Al I q (by simp))
  |_=>exact absurd (show false=true from hs) Bool.false_ne_true
 |str i=>
  obtain ⟨t,rfl⟩:=rx
  cases y with
  |non=>cases ry;exact PySem.EqNone.eq_str_none (Al I q (by simp))
  |bl j=>cases ry;exact PySem.EqMixed.eq_str_bool (Al I q (by simp))
  |int j=>obtain ⟨t',rfl⟩:=ry;exact PySem.EqMixed.eq_str_int (Al I q (by simp))
  |str j=>obtain ⟨t',rfl⟩:=ry;exact eq_str (Al I q Jj)
  |_=>exact absurd (show false=true from hs) Bool.false_ne_true
 |byt i=>
  obtain ⟨t,rfl⟩:=rx
  cases y with
  |byt j=>obtain ⟨t',rfl⟩:=ry;exact PySem.W.eq_bytes (Al I q Rp)
  |_=>exact absurd (show false=true from hs) Bool.false_ne_true
 |_=>cases y<;>exact absurd (show false=true from hs) Bool.false_ne_true
theorem ZJ:OpR X (compareOp .NotEq) rNe:=by
 intro pins s σ H x y v u Q I rx ry h
 obtain ⟨hs,q⟩:=h
 cases x with
 |non=>
  cases rx
  cases y with
  |non=>cases ry;exact PySem.EqNone.ne_none_none (Al I q (by simp))
  |bl j=>cases ry;exact PySem.EqNone.ne_none_bool (Al I q (by simp))
  |int j=>obtain ⟨t',rfl⟩:=ry;exact PySem.EqNone.ne_none_int (Al I q (by simp))
  |str j=>obtain ⟨t',rfl⟩:=ry;exact PySem.EqNone.ne_none_str (Al I q (by simp))
  |_=>exact absurd (show false=true from hs) Bool.false_ne_true
 |bl i=>
  cases rx
  cases y with
  |non=>cases ry;exact PySem.EqNone.ne_bool_none (Al I q (by simp))
  |bl j=>cases ry;exact ne_bool (Al I q (congrArg not Ux))
  |str j=>obtain ⟨t',rfl⟩:=ry;exact PySem.EqMixed.ne_bool_str (Al I q (by simp))
  |_=>exact absurd (show false=true from hs) Bool.false_ne_true
 |int i=>
  obtain ⟨t,rfl⟩:=rx
  cases y with
  |non=>cases ry;exact PySem.EqNone.ne_int_none (Al I q (by simp))
  |int j=>obtain ⟨t',rfl⟩:=ry;exact ne_int (Al I q (congrArg not Jf))
  |str j=>obtain ⟨t',rfl⟩:=ry;exact PySem.EqMixed.ne_int_str (Al I q (by simp))
  |_=>exact absurd (show false=true from hs) Bool.false_ne_true
 |str i=>
  obtain ⟨t,rfl⟩:=rx
  cases y with
  |non=>cases ry;exact PySem.EqNone.ne_str_none (Al I q (by simp))
  |bl j=>cases ry;exact PySem.EqMixed.ne_str_bool (Al I q (by simp))
  |int j=>obtain ⟨t',rfl⟩:=ry;exact PySem.EqMixed.ne_str_int (Al I q (by simp))
  |str j=>obtain ⟨t',rfl⟩:=ry;exact ne_str (Al I q (congrArg not Jj))
  |_=>exact absurd (show false=true from hs) Bool.false_ne_true
 |byt i=>
  obtain ⟨t,rfl⟩:=rx
  cases y with
  |byt j=>obtain ⟨t',rfl⟩:=ry;exact PySem.W.ne_bytes (Al I q (congrArg not Rp))
  |_=>exact absurd (show false=true from hs) Bool.false_ne_true
 |_=>cases y<;>exact absurd (show false=true from hs) Bool.false_ne_true
theorem dh:OpR X (compareOp .Lt) (rI0 fun i j=>.bl (decide (i<j))):=aA fun _ _ _ _ _ _ _ q=>lt_int q
theorem R6:OpR X (compareOp .LtE) (rI0 fun i j=>.bl (decide (i≤j))):=aA fun _ _ _ _ _ _ _ q=>le_int q
theorem gU:OpR X (compareOp .Gt) (rI0 fun i j=>.bl (decide (j<i))):=aA fun _ _ _ _ _ _ _ q=>gt_int q
def gX (t:TE):TT:=fun σ H Q=>t σ H fun x H'=>∃k,x=.bl k/\Q k H'
def Ur (r r':R2) (ta tb tc:TE):TE:=fun σ H Q=>ta σ H fun x H1=>tb σ H1 fun y H2=>r x y H2 fun z H3=>∃k,z=.bl k ∧
 (if k=true then tc σ H3 fun w' H4=>r' y w' H4 Q else Q (.bl false) H3)
theorem WH {op cL:CmpOp} {r r':R2} (ho:OpR X (compareOp op) r) (HE:OpR X (compareOp cL) r') (ha:PE X a ta) (hb:PE X b tb) (hc:PE X c tc)
  (hm:lastMarks [op,cL] [b,c]=false:=by with_unfolding_all rfl):PE X (.Compare a [op,cL] [b,c] pos) (Ur r r' ta tb tc):=by
 intro pins s σ H Q I h
 refine Compare_chain (thn (ha pins s σ H _ I h) fun v s1 ⟨x,H1,I1,r1,q1⟩=>chain_link (thn (hb pins s1 σ H1 _ I1 q1) fun u s2 ⟨y,H2,I2,r2,q2⟩=>
  thn (ho pins s2 σ H2 x y v u _ I2 r1 r2 q2) fun d s3 ⟨z,H3,I3,r3,k,e,q3⟩=>?_)) hm
 subst e
 cases r3
 refine wpAny_truthy_bool ?_
 cases k with
 |false=>exact ite_ff ⟨.bl false,H3,I3,rfl,q3⟩
 |true=>exact ite_tt (chain_last (thn (hc pins s3 σ H3 _ I3 q3) fun w' s4 ⟨z',H4,I4,r4,q4⟩=>HE pins s4 σ H4 y z' u w' Q I4 r2 r4 q4))
theorem Vz {op cL:CmpOp} {r r':R2} (ho:OpR X (compareOp op) r) (HE:OpR X (compareOp cL) r') (ha:PE X a ta) (hb:PE X b tb) (hc:PE X c tc)
  (hm:lastMarks [op,cL] [b,c]=false:=by with_unfolding_all rfl):PT X (.Compare a [op,cL] [b,c] pos) (gX (Ur r r' ta tb tc)):=by
 intro pins s σ H Q I h
 refine isTrue_chain (thn (ha pins s σ H _ I h) fun v s1 ⟨x,H1,I1,r1,q1⟩=>test_link (thn (hb pins s1 σ H1 _ I1 q1) fun u s2 ⟨y,H2,I2,r2,q2⟩=>
  thn (ho pins s2 σ H2 x y v u _ I2 r1 r2 q2) fun d s3 ⟨z,H3,I3,r3,k,e,q3⟩=>?_)) hm
 subst e
 cases r3
 refine wpAny_truthy_bool ?_
 cases k with
 |false=>
  obtain ⟨k',e',q'⟩:=q3
  cases e'
  exact ite_ff ⟨H3,I3,q'⟩
 |true=>
  refine ite_tt (test_last (thn (hc pins s3 σ H3 _ I3 q3) fun w' s4 ⟨z',H4,I4,r4,q4⟩=>thn (HE pins s4 σ H4 y z' u w' _ I4 r2 r4 q4) fun d' s5 ⟨z2,H5,I5,r5,k2,e2,q5⟩=>?_))
  subst e2
  cases r5
  exact wpAny_truthy_bool ⟨H5,I5,q5⟩
def ax (K:PySem.W.Frag) (x:V) (H:Hp) (k:Bool):Prop:=
 match x with
 |.non=>k=false
 |.bl b=>k=b
 |.int i=>k=(i != 0)
 |.str y=>y.length≤sizeLine/\k=((y.length:Int) != 0)
 |.byt y=>y.size≤sizeLine/\k=((y.size:Int) != 0)
 |.ref p=>(∃xs,SqL K H p xs/\k=!xs.isEmpty)\/(∃xs,SqT K H p xs/\k=!xs.isEmpty)\/∃kvs,H p=some (.dK kvs)/\k=!kvs.isEmpty
 |_=>False
theorem QY {κ:Type} {kvs:List (κ×V)} {vs:List (κ×Value)} (r:KV kvs vs):(!vs.isEmpty)=!kvs.isEmpty:=by
 cases r<;>rfl
theorem LR {xs:List V} {its:List Value} (r:Vals xs its):(!its.toArray.isEmpty)=!xs.isEmpty:=by
 cases r<;>simp
theorem Ib:(sizeLine:Nat)<2 ^ 63:=by rw [sizeLine_eq];decide
theorem bj:lV X (fun x H Q=>∃k,ax X.K x H k/\Q k H):=by
 intro pins s σ H x v Q I rx h
 obtain ⟨k,e,q⟩:=h
 have hl:=Ib
 have hs:sizeLine=16777216:=sizeLine_eq
 cases x with
 |non=>
  cases rx
  have e':k=false:=e
  subst e'
  exact truthy_none ⟨H,I,q⟩
 |bl b=>
  cases rx
  have e':k=b:=e
  subst e'
  exact wpAny_truthy_bool ⟨H,I,q⟩
 |int i=>
  obtain ⟨t,rfl⟩:=rx
  have e':k=(i != 0):=e
  subst e'
  exact PySem.P.truthy_int ⟨H,I,q⟩
 |str y=>
  obtain ⟨t,rfl⟩:=rx
  obtain ⟨hy,e'⟩:y.length≤sizeLine/\k=((y.length:Int) != 0):=e
  subst e'
  exact PySem.P.truthy_str (by lia) ⟨H,I.tok _,q⟩
 |byt y=>
  obtain ⟨t,rfl⟩:=rx
  obtain ⟨hy,e'⟩:y.size≤sizeLine/\k=((y.size:Int) != 0):=e
  subst e'
  exact PySem.W.truthy_bytes (by lia) ⟨H,I.tok _,q⟩
 |ref p=>
  cases rx
  have e':(∃xs,SqL X.K H p xs/\k=!xs.isEmpty)\/(∃xs,SqT X.K H p xs/\k=!xs.isEmpty)\/∃kvs,H p=some (.dK kvs)/\k=!kvs.isEmpty:=e
  rcases e' with ⟨xs,hx,e'⟩|⟨xs,hx,e'⟩|⟨kvs,hx,e'⟩
  ·subst e'
   obtain ⟨its,r,pl,hz⟩:=I.list hx
   have hlen:=r.length
   exact wpAny_truthy_list pl.isList (by simp only [List.size_toArray];lia) ⟨H,I.tok _,by rw [LR r];exact q⟩
  ·subst e'
   obtain ⟨its,r,pl,hz⟩:=I.tuple hx
   have hlen:=r.length
   exact truthy_tuple pl (by simp only [List.size_toArray];lia) ⟨H,I.tok _,by rw [LR r];exact q⟩
  ·subst e'
   obtain ⟨hz,hS,vs,r,m⟩:kvs.length≤sizeLine/\(p==sysModules)=false/\∃vs,KV kvs vs/\s.heap.DictOf (NN X.prog X.w) p vs:=I.hok p _ hx
   have hlen:kvs.length=vs.length:=Paired.length r
   exact wpAny_truthy_dict hS m (by lia) ⟨H,I.tok _,by rw [QY r];exact q⟩
 |_=>exact (show False from e).elim
theorem Vp (ha:PE X a ta) (he:∀whole,isTrue a X.env whole=(do let v <-whole;standAt a.pos;holding [v] (truthy v))) :
  PT X a (fun σ H Q=>ta σ H fun x H'=>∃k,ax X.K x H' k/\Q k H'):=by
 intro pins s σ H Q I h
 exact isTrue_plain (thn (ha pins s σ H _ I h) fun v s1 ⟨x,H1,I1,r1,q1⟩=>bj pins s1 σ H1 x v Q I1 r1 q1) (he _)
theorem Qd:OpR X (binaryOp .Add) (fun x y H Q=>∃i j,x=.str i/\y=.str j/\i.length+j.length≤sizeLine/\Q (.str (i++j)) H):=by
 intro pins s σ H x y v u Q I rx ry h
 obtain ⟨i,j,rfl,rfl,hz,q⟩:=h
 obtain ⟨t,rfl⟩:=rx
 obtain ⟨t',rfl⟩:=ry
 exact add_str (fun t' tk=>⟨.str (i++j),H,I.tok _,⟨_,rfl⟩,q⟩) hz
theorem HU {x:V} {us:List Value} (r:Vals [x] us):∃u,us=[u]/\RelV x u:=by
 cases r with
 |cons r1 r2=>cases r2;exact ⟨_,rfl,r1⟩
theorem Mh {x y:V} {us:List Value} (r:Vals [x,y] us):∃u w',us=[u,w']/\RelV x u/\RelV y w':=by
 cases r with
 |cons r1 r2=>
  cases r2 with
  |cons r3 r4=>cases r4;exact ⟨_,_,rfl,r1,r3⟩
theorem UO (hc:X.calm=true):C2 X (.builtin "max") (fun xs H Q=>∃i j,xs=[.int i,.int j]/\Q (.int (if j > i then j else i)) H):=by
 intro pins s σ H xs us Q I r h
 obtain ⟨i,j,rfl,q⟩:=h
 obtain ⟨u,w',rfl,⟨t,rfl⟩,⟨t',rfl⟩⟩:=Mh r
 refine max_two_ints (I.ok.hd hc) fun h' tk k=>⟨_,H,I.kept k,?_,q⟩
 by_cases hj:j > i
 ·rw [if_pos hj,if_pos hj];exact ⟨_,rfl⟩
 ·rw [if_neg hj,if_neg hj];exact ⟨_,rfl⟩
theorem TB (hc:X.calm=true):C2 X (.builtin "min") (fun xs H Q=>∃i j,xs=[.int i,.int j]/\Q (.int (if j<i then j else i)) H):=by
 intro pins s σ H xs us Q I r h
 obtain ⟨i,j,rfl,q⟩:=h
 obtain ⟨u,w',rfl,⟨t,rfl⟩,⟨t',rfl⟩⟩:=Mh r
 refine min_two_ints (I.ok.hd hc) fun h' tk k=>⟨_,H,I.kept k,?_,q⟩
 by_cases hj:j<i
 ·rw [if_pos hj,if_pos hj];exact ⟨_,rfl⟩
 ·rw [if_neg hj,if_neg hj];exact ⟨_,rfl⟩
theorem UI:C2 X (.type "int") (fun xs H Q=>(∃i,xs=[.int i]/\Q (.int i) H)\/∃k,xs=[.bl k]/\Q (.int (if k then 1 else 0)) H):=by
 intro pins s σ H xs us Q I r h
 rcases h with ⟨i,rfl,q⟩|⟨k,rfl,q⟩
 ·obtain ⟨u,rfl,t,rfl⟩:=HU r
  exact call_int_int ⟨.int i,H,I,⟨_,rfl⟩,q⟩
 ·obtain ⟨u,rfl,r1⟩:=HU r
  cases r1
  exact call_int_bool ⟨.int (if k then 1 else 0),H,I.tok _,⟨_,rfl⟩,q⟩
end
structure ObjM (h:Heap) (x dx C:Addr) (mA:Str->Option Value):Prop where
 obj:h.get? x=some (PySem.W.instObj C dx)
 ns:h.Ns1 dx mA
 ne:dx≠x
theorem TC {h:Heap} {dx:Addr} {mA:Str->Option Value} (n:h.Ns1 dx mA):∃od,h.get? dx=some od/\∀name,PySem.W.lookIn name od=some (mA name):=by
 obtain ⟨o,es,ep,ho,hd,hk,_,hm⟩:=n
 refine ⟨o,ho,fun name=>?_⟩
 have e:=hm name
 unfold nsFind findBy at e
 rw [<-Array.find?_toList]at e
 unfold PySem.W.lookIn
 rw [hd]
 dsimp only
 split
 ·rename_i y q
  rw [q]at e
  exact congrArg some e
 ·rename_i q
  rw [q]at e
  have a:es.toList.any (·.refKey)=false:=by
   rw [List.any_eq_false]
   intro y hy
   obtain ⟨z,t,og⟩:=hk y (Array.mem_toList_iff.mp hy)
   simp [DictEntry.refKey,og]
  have a':¬es.toList.any (·.refKey)=true:=by rw [a];exact Bool.false_ne_true
  rw [if_neg a']
  exact congrArg some e
theorem ObjM.look {h:Heap} {x dx C:Addr} {mA:Str->Option Value} (I:ObjM h x dx C mA):∃od,PySem.W.InstAt h x (PySem.W.instObj C dx) C (some od)/\∀name,PySem.W.lookIn name od=some (mA name):=
 let ⟨od,ho,hl⟩:=TC I.ns
 ⟨od,⟨I.obj,rfl,rfl,ho⟩,hl⟩
section
variable {P:Program}{w:World}{H H':Hp}{h h':Heap}{a C dx:Addr}{fs xr:List (Str×V)}
theorem Jr (hok:HOk P w H h) (e:H a=some (.ins C dx fs)):∃mA,ObjM h a dx C mA/\(∀f,Z9 (fs.lookup f) (mA f))/\PySem.Within mA (fs.map (·.1))/\fs.length≤1000/\H dx=some (.own a):=by
 obtain ⟨d,z,ne,ob,mA,n,r,q⟩:=(show ObjOk P w H h a (.ins C dx fs)from hok a _ e)
 exact ⟨mA,⟨ob,n,ne⟩,r,q,z,d⟩
end
structure Cls (K:PySem.W.Frag) (C:Addr):Prop where
 pg:PySem.W.plainGet K C Str.empty=true
 hd:PySem.W.hasDictIn K C=true
 po:PySem.W.plainOver K C=true
 sa:PySem.W.findIn K (.ref C) "__setattr__"=some (some (.builtin "object.__setattr__"))
theorem Cls.get {K:PySem.W.Frag} {C:Addr} (c:Cls K C) (f:Str):PySem.W.plainGet K C f=true:=c.pg
section
variable {X:Cx}{pins:List (Addr×Obj)}{σ:St}{H:Hp}{s:Shared}{A:Around}{E:Value->Shared->Prop}{Q:Value->Shared->Prop}{c:Value}{b:Bool}
inductive TyOf (K:PySem.W.Frag) (H:Hp):V->Value->Prop where
 |non:TyOf K H .non (.type "NoneType")
 |bl (x:Bool):TyOf K H (.bl x) (.type "bool")
 |int (i:Int):TyOf K H (.int i) (.type "int")
 |str (x:Str):TyOf K H (.str x) (.type "str")
 |flt (x:UInt64):TyOf K H (.flt x) (.type "float")
 |lst {a:Addr} {xs:List V} (e:H a=some (.lst xs)):TyOf K H (.ref a) (.type "list")
 |frz {a:Addr} {o:Obj} {xs:List V} (e:H a=some (.frz o (.lst xs))):TyOf K H (.ref a) (.type "list")
 |tup {a:Addr} {xs:List V} (e:H a=some (.tup xs)):TyOf K H (.ref a) (.type "tuple")
 |dK {a:Addr} {kvs:List (Key×V)} (e:H a=some (.dK kvs)):TyOf K H (.ref a) (.type "dict")
 |dT {a:Addr} {kvs:List (List Key×V)} (e:H a=some (.dT kvs)):TyOf K H (.ref a) (.type "dict")
 |ins {a C dx:Addr} {fs:List (Str×V)} (e:H a=some (.ins C dx fs)) (cl:Cls K C) (ha:PySem.W.findIn K (.ref C) "__class__"=some (some (.builtin "object.__class__")))
   (hn:PySem.W.specialIn K (.builtin "object.__class__") "__get__"=some (some (.builtin "getset_descriptor.__get__"))) (Zb:PySem.W.takesIn K (.builtin "object.__class__")=some true)
   (hm:PySem.W.mroIn K C (.type "object")=some true):TyOf K H (.ref a) (.ref C)
theorem GH {x:V} {u t:Value} (I:Inv X pins σ H s) (rx:RelV x u) (ty:TyOf X.K H x t) (e:PySem.W.kitOne X.K t c=some b) (h:∀tk,Q (.bool b) { s with toks:=tk }) :
  wpAny (model X.prog X.w) A (call (.builtin "isinstance") [u,c]) Q E s:=by
 cases ty with
 |non=>cases (show u=Value.none from rx);exact PySem.W.kia_one PySem.W.kitx_none I.kIn True.intro e (fun z=>nomatch z) h
 |bl y=>cases (show u=Value.bool y from rx);exact PySem.W.kia_one PySem.W.kitx_bool I.kIn True.intro e (fun z=>nomatch z) h
 |int i=>obtain ⟨t,q⟩:=(show ∃t,u=Value.int i t from rx);cases q;exact PySem.W.kia_one PySem.W.kitx_int I.kIn True.intro e (fun z=>nomatch z) h
 |str y=>obtain ⟨t,q⟩:=(show ∃t,u=Value.str y t from rx);cases q;exact PySem.W.kia_one PySem.W.kitx_str I.kIn True.intro e (fun z=>nomatch z) h
 |flt y=>obtain ⟨t,q⟩:=(show ∃t,u=Value.float y t from rx);cases q;exact PySem.W.kia_one PySem.W.kitx_float I.kIn True.intro e (fun z=>nomatch z) h
 |@lst a xs ea=>
  cases (show u=Value.ref a from rx)
  obtain ⟨_,_,n,_,h1⟩:=(show ObjOk X.prog X.w H s.heap a (.lst xs)from I.hok a _ ea)
  exact PySem.W.kia_one PySem.W.kitx_list I.kIn ⟨_,h1,rfl⟩ e (fun z=>nomatch z) h
 |@frz a ob xs ea=>
  cases (show u=Value.ref a from rx)
  obtain ⟨_,_,_,n,_,h1⟩:=(show ObjOk X.prog X.w H s.heap a (.frz ob (.lst xs))from I.hok a _ ea)
  exact PySem.W.kia_one PySem.W.kitx_list I.kIn ⟨_,h1,rfl⟩ e (fun z=>nomatch z) h
 |@tup a xs ea=>
  cases (show u=Value.ref a from rx)
  obtain ⟨_,_,_,p⟩:=(show ObjOk X.prog X.w H s.heap a (.tup xs)from I.hok a _ ea)
  obtain ⟨o,h1,h2,_⟩:=p
  exact PySem.W.kia_one PySem.W.kitx_tuple I.kIn ⟨o,h1,h2⟩ e (fun z=>nomatch z) h
 |@dK a kvs ea=>
  cases (show u=Value.ref a from rx)
  obtain ⟨_,_,vs,_,p⟩:=(show ObjOk X.prog X.w H s.heap a (.dK kvs)from I.hok a _ ea)
  obtain ⟨o,es,ep,h1,h2,_⟩:=p
  exact PySem.W.kia_one PySem.W.kitx_dict I.kIn ⟨o,h1,h2.1⟩ e (fun z=>nomatch z) h
 |@dT a kvs ea=>
  cases (show u=Value.ref a from rx)
  obtain ⟨_,_,xs,_,o,es,ep,h1,h2,_⟩:=(show ObjOk X.prog X.w H s.heap a (.dT kvs)from I.hok a _ ea)
  exact PySem.W.kia_one PySem.W.kitx_dict I.kIn ⟨o,h1,h2.1⟩ e (fun z=>nomatch z) h
 |@ins a C dx fs ea cl ha hn Zb hm=>
  cases (show u=Value.ref a from rx)
  obtain ⟨mA,O,_⟩:=Jr I.hok ea
  obtain ⟨od,J,_⟩:=O.look
  exact PySem.W.kia_one (PySem.W.kitx_own (cl.get _) cl.hd ha hn Zb hm) I.kIn J e (fun z=>nomatch z) h
end
structure Room (k:Nat) (A:Around):Prop where
 hd:A.handled=none
 dp:A.depth+3*k+5<recursionLimit
 un:A.units+16*k+200<cLine
theorem Room.mono {j k:Nat} {A:Around} (r:Room k A) (h:j≤k):Room j A:=⟨r.hd,by have:=r.dp;lia,by have:=r.un;lia⟩
theorem Room.deeper {k:Nat} {A:Around} (r:Room (k+1) A) (env:Env):Room k (A.deeper env):=
 ⟨r.hd,by have:=r.dp;show A.depth+1+3*k+5<_;lia,by have:=r.un;show A.units+3+16*k+200<_;lia⟩
theorem Room.in1 {k:Nat} {A:Around} (r:Room (k+1) A):Room k A.in1:=
 ⟨r.hd,by have:=r.dp;show A.depth+3*k+5<_;lia,by have:=r.un;show A.units+1+16*k+200<_;lia⟩
theorem Room.depth {k:Nat} {A:Around} (r:Room k A):A.depth<recursionLimit:=by have:=r.dp;lia
theorem Room.units {k:Nat} {A:Around} (r:Room k A):A.units+64<cLine:=by have:=r.un;lia
def lh:TA:=fun _ H Q=>Q [] H
def gE (ta:TE) (tr:TA):TA:=fun σ H Q=>ta σ H fun x H1=>tr σ H1 fun xs H2=>Q (x::xs) H2
section
variable {X:Cx}{e:Expr}{es:List Expr}{te:TE}{t:TA}{pos:Pos}
theorem D3:PA X [] lh:=fun _ _ _ _ H Q I h=>Calls.spliced_nil ⟨[],H,I,.nil,h⟩
theorem B3 (ha:PE X e te) (hr:PA X es t) (hs:starEach (e::es) X.env=(false,eval e X.env)::starEach es X.env:=by rfl):PA X (e::es) (gE te t):=by
 intro pos pins s σ H Q I h
 rw [hs]
 show wpAny _ _ (spliced ((false,eval e X.env)::backTo pos (starEach es X.env))) _ _ s
 refine Calls.spliced_cons (thn (ha pins s σ H _ I h) fun u s1 ⟨x,H1,I1,r1,q1⟩=>?_)
 exact thn (hr pos pins s1 σ H1 _ I1 q1) fun us s2 ⟨xs,H2,I2,r2,q2⟩=>⟨x::xs,H2,I2,.cons r1 r2,q2⟩
def lq (t:TA):TE:=fun σ H Q=>t σ H fun xs H1=>xs.length≤sizeLine/\∀p,H1 p=none->Q (.ref p) (upd H1 p (.tup xs))
def nv (t:TA):TE:=fun σ H Q=>t σ H fun xs H1=>xs.length≤sizeLine/\∀p,H1 p=none->Q (.ref p) (upd H1 p (.lst xs))
theorem bu {x1} (h:PA X es t):PE X (.Tuple es x1 pos) (lq t):=by
 intro pins s σ H Q I hq
 refine wpAny_Tuple_spliced (thn (h pos pins s σ H _ I hq) fun us s1 ⟨xs,H1,I1,r,z,q⟩=>⟨by rw [<-r.length];exact z,?_⟩)
 have hf:H1 s1.heap.objs.size=none:=I1.hok.fresh (Nat.le_refl _)
 refine ⟨.ref s1.heap.objs.size,upd H1 s1.heap.objs.size (.tup xs),I1.laid (t':=s1.toks) (fun b u e=>Heap.get?_push_of_some _ e) (Nat.le_refl _) ?_,rfl,q _ hf⟩
 exact ⟨z,us,r,⟨_,Heap.get?_push_size _ rfl,rfl,_,rfl⟩⟩
theorem We (h:PA X es t):PE X (.List es pos) (nv t):=by
 intro pins s σ H Q I hq
 refine wpAny_List_spliced (thn (h pos pins s σ H _ I hq) fun us s1 ⟨xs,H1,I1,r,z,q⟩=>⟨by rw [<-r.length];exact z,?_⟩)
 have hf:H1 s1.heap.objs.size=none:=I1.hok.fresh (Nat.le_refl _)
 refine ⟨.ref s1.heap.objs.size,upd H1 s1.heap.objs.size (.lst xs),I1.laid (t':=s1.toks) (fun b u e=>Heap.get?_push_of_some _ e) (Nat.le_refl _) ?_,rfl,q _ hf⟩
 exact ⟨z,us,0,r,Heap.get?_push_size _ rfl⟩
end
abbrev Sp:=List V->Hp->VK->XK->Prop
abbrev CXT:=List Env->Hp->Shared->XK->Value->Shared->Prop
structure Env0 (P:Program) (w:World) (K:PySem.W.Frag) (mg:Str->Option Value) (base:Heap) (A:Around) (outer:List Env) (s:Shared) (H:Hp):Prop where
 frames:A.frames=some outer
 mod:Mod K mg base
 bs:∀b o,base.get? b=some o->s.heap.get? b=some o/\H b=none
 bsz:base.objs.size≤s.heap.objs.size
 funs:s.heap.FunFrames base outer
 frf:∀b∈frs outer,H b=none
 hok:HOk P w H s.heap
 bare:AllBare s.gens
def CE (outer:List Env) (P:Program) (w:World) (H:Hp) (s:Shared) (Q:VK) (u:Value) (s':Shared):Prop:=
 ∃v H',s'.os=s.os/\AllBare s'.gens/\Un (frs outer) [] H H' s.heap s'.heap/\HOk P w H' s'.heap/\RelV v u/\Q v H'
def CR (CX:CXT) (outer:List Env) (P:Program) (w:World) (H:Hp) (s:Shared) (Q:VK) (E:XK) (r:Result) (s':Shared):Prop:=
 match r with
 |.ok (.ret u)=>CE outer P w H s Q u s'
 |.ok _=>False
 |.error e=>CX outer H s E e s'
structure FnOk (P:Program) (w:World) (K:PySem.W.Frag) (mg:Str->Option Value) (base:Heap) (CX:CXT) (k:Nat) (f:Addr) (fd:FuncData) (ps:List Str) (sp:Sp):Prop where
 len:∀vs H Q E,sp vs H Q E->vs.length=ps.length
 run:∀(A:Around) (outer:List Env) (s:Shared) (H:Hp) (args:Args) (us:List Value) (vs:List V) (Q:VK) (E:XK),Room k A->Env0 P w K mg base A outer s H->BindsTo s fd args (ps.zip us)->Vals vs us->sp vs H Q E →
  codeAny (model P w) A (.call (.ref f) args) (CR CX outer P w H s Q E) s
theorem Env0.in1 {P:Program} {w:World} {K:PySem.W.Frag} {mg:Str->Option Value} {base:Heap} {A:Around} {outer:List Env} {s:Shared} {H:Hp} (e:Env0 P w K mg base A outer s H) :
  Env0 P w K mg base A.in1 outer s H:=⟨e.frames,e.mod,e.bs,e.bsz,e.funs,e.frf,e.hok,e.bare⟩
section
variable {X:Cx}{pins:List (Addr×Obj)}{σ:St}{H:Hp}{s s':Shared}
theorem Inv.env0 (I:Inv X pins σ H s):Env0 X.prog X.w X.K X.mg X.base X.A X.stack s H:=
 ⟨I.ok.frames,I.ok.mod,I.bs,Nat.le_trans I.ok.bsz I.sz,I.stack,I.stkFree,I.hok,I.bare⟩
theorem Inv.after {Q:VK} {u:Value} (I:Inv X pins σ H s) (h:CE X.stack X.prog X.w H s Q u s'):EP X pins σ Q u s':=by
 obtain ⟨v,H',os,bare,un,hok,r,q⟩:=h
 obtain ⟨hh,g,d,t,md⟩:=s'
 obtain rfl:md=s.os:=os
 exact ⟨v,H',I.call (h':=hh) (g':=g) (d':=d) (t':=t) (ch:=[]) un hok bare (fun b z=>absurd z (by simp)),r,q⟩
end
def dR (sp:Sp) (ZS:List V) (E:XK) (t:TA):TE:=fun σ H Q=>t σ H fun vs H1=>sp (vs++ZS) H1 Q E
def Binds (K:PySem.W.Frag) (fd:FuncData) (ps:List Str) (ds:List Value):Prop:=
 ∀(s:Shared) (us:List Value),K.In s.heap->(us++ds).length=ps.length->BindsTo s fd ⟨us,[]⟩ (ps.zip (us++ds))
theorem Binds.all {K:PySem.W.Frag} {fd:FuncData} {ps:List Str} (h:∀us:List Value,us.length=ps.length->bindArgs fd ⟨us,[]⟩=pure (ps.zip us)):Binds K fd ps []:=fun s us _ hl=>by
 rw [List.append_nil]at hl ⊢
 exact .of_eq (h us hl)
def Qz (CX:CXT) (X:Cx) (E:XK):Prop:=∀(pins:List (Addr×Obj)) (σ:St) (H:Hp) (s:Shared) (e:Value) (s':Shared),Inv X pins σ H s->CX X.stack H s E e s'->X.xe e s'
section
variable {X:Cx}{CX:CXT}{k:Nat}{f C:Addr}{fd:FuncData}{ps:List Str}{sp:Sp}{ZS:List V}{ds:List Value}{E:XK}{x m:Str}{p pos apos:Pos}{e o:Expr}{es:List Expr}{ta:TE}{t:TA}
theorem aK {pins:List (Addr×Obj)} {σ:St} {H:Hp} {s:Shared} {Q:VK} {us:List Value} {vs:List V} (F:FnOk X.prog X.w X.K X.mg X.base CX k f fd ps sp) (hr:Room k X.A) (hb:Binds X.K fd ps ds) (hd:Vals ZS ds) (hx:Qz CX X E)
  (I:Inv X pins σ H s) (r:Vals vs us) (h:sp (vs++ZS) H Q E):wpAny (model X.prog X.w) X.A (call (.ref f) us) (EP X pins σ Q) X.xe s:=by
 have r2:Vals (vs++ZS) (us++ds):=r.append hd
 have hl:(us++ds).length=ps.length:=by rw [<-r2.length];exact F.len _ _ _ _ h
 refine wpAny_call (codeAny_mono (F.run X.A X.stack s H ⟨us,[]⟩ (us++ds) (vs++ZS) Q E hr I.env0 (hb s us I.kIn hl) r2 h) fun r s' hq=>?_)
 cases r with
 |error e=>exact hx pins σ H s e s' I hq
 |ok fl=>
  cases fl with
  |ret u=>exact I.after hq
  |next=>exact False.elim hq
  |brk=>exact False.elim hq
  |cont=>exact False.elim hq
theorem Rh (F:FnOk X.prog X.w X.K X.mg X.base CX k f fd ps sp) (hr:Room k X.A) (hg:Gl X x) (hm:X.mg x=some (.ref f)) (hk:PySem.W.keepIn X.K (.ref f)=true) (hb:Binds X.K fd ps ds) (hd:Vals ZS ds) (hx:Qz CX X E)
  (ha:PA X (e::es) t) (E8:(x==("__debug__":Str))=false:=by decide) (he:starEach (e::es) X.env=(false,eval e X.env)::starEach es X.env:=by rfl) (hpl:(backTo pos (starEach es X.env)).any (·.1)=false:=by rfl) :
  PE X (.Call (.Name x p) (e::es) [] pos) (dR sp ZS E t):=by
 intro pins s σ H Q I h
 refine wpAny_Call_Name_kw (Du I hg hm ?_ E8)
 refine PySem.W.callWith_K (h₀:=X.base) I.ok.mod.kin hk (thn (ha pos pins s σ H _ I h) fun us s1 ⟨vs,H1,I1,r,q⟩=>⟨I1.kIn,?_⟩) he hpl
 exact aK F hr hb hd hx I1 r q
end
structure FnScope (N P:List Str) (sc:Scope):Prop where
 kind:sc.kind=.function
 co:sc.isCoroutine=false
 gen:sc.isGenerator=false
 nd:N.Nodup
 pre:N.take P.length=P
 par:∀x∈P,sc.names.lookup x=some .local\/sc.names.lookup x=some .cell
 nofree:∀y∈sc.names,y.2≠.free
theorem L8 {kindOf:Str->Option NameKind} {x:Str}:∀{binds:List (Str×Value)} {m:Str->Option Value},(∀v,(x,v)∉binds)->bindL kindOf binds m x=m x
 |[],_,_=>rfl
 |(n,v)::r,m,h=>by
  unfold bindL
  rw [L8 fun w hw=>h w (List.mem_cons_of_mem _ hw)]
  split
  ·have:x≠n:=by rintro rfl;exact h v List.mem_cons_self
   simp [this]
  ·rfl
theorem MR {kindOf:Str->Option NameKind} {x:Str}:∀{binds:List (Str×Value)} {m:Str->Option Value},(∀v,(x,v)∉binds)->bindC kindOf binds m x=m x
 |[],_,_=>rfl
 |(n,v)::r,m,h=>by
  unfold bindC
  rw [MR fun w hw=>h w (List.mem_cons_of_mem _ hw)]
  split
  ·rfl
  ·have:x≠n:=by rintro rfl;exact h v List.mem_cons_self
   simp [this]
theorem L0 {kindOf:Str->Option NameKind} {x:Str} {v:Value}:∀{P:List Str} {vs:List Value} {i:Nat} {m:Str->Option Value},P.Nodup->P[i]?=some x->vs[i]?=some v->kindOf x=some .local →
  bindL kindOf (P.zip vs) m x=some v
 |[],_,_,_,_,h,_,_=>by simp at h
 |_::_,[],_,_,_,_,h,_=>by simp at h
 |p::P,w::vs,0,m,nd,h1,h2,hk=>by
  simp at h1 h2;subst h1;subst h2
  show bindL kindOf ((p,w)::P.zip vs) m p=_
  unfold bindL
  rw [L8 fun v hv=>(List.nodup_cons.mp nd).1 (List.of_mem_zip hv).1,if_pos hk]
  simp
 |p::P,w::vs,i+1,m,nd,h1,h2,hk=>by
  show bindL kindOf ((p,w)::P.zip vs) m x=_
  unfold bindL
  exact L0 (i:=i) (List.nodup_cons.mp nd).2 (by simpa using h1) (by simpa using h2) hk
theorem Mc {kindOf:Str->Option NameKind} {x:Str} {v:Value}:∀{P:List Str} {vs:List Value} {i:Nat} {m:Str->Option Value},P.Nodup->P[i]?=some x->vs[i]?=some v->kindOf x≠some .local →
  bindC kindOf (P.zip vs) m x=some v
 |[],_,_,_,_,h,_,_=>by simp at h
 |_::_,[],_,_,_,_,h,_=>by simp at h
 |p::P,w::vs,0,m,nd,h1,h2,hk=>by
  simp at h1 h2;subst h1;subst h2
  show bindC kindOf ((p,w)::P.zip vs) m p=_
  unfold bindC
  rw [MR fun v hv=>(List.nodup_cons.mp nd).1 (List.of_mem_zip hv).1,if_neg hk]
  simp
 |p::P,w::vs,i+1,m,nd,h1,h2,hk=>by
  show bindC kindOf ((p,w)::P.zip vs) m x=_
  unfold bindC
  exact Mc (i:=i) (List.nodup_cons.mp nd).2 (by simpa using h1) (by simpa using h2) hk
def start (N:List Str) (vs:List V):St:=vs.map some++List.replicate (N.length-vs.length) none
def El (CX:CXT) (P:Program) (w:World) (K:PySem.W.Frag) (mg:Str->Option Value) (base:Heap) (N:List Str) (qual:Str) (scope:Scope) (f:Addr) (cd:Value) (A:Around) (outer:List Env) (s:Shared) (H:Hp) (E:XK):Cx where
 prog:=P
 w:=w
 K:=K
 mg:=mg
 base:=base
 A:=A.deeper (envOfC qual scope s.heap.objs.size f cd)
 N:=N
 s₀:=s
 H₀:=H
 env:=envOfC qual scope s.heap.objs.size f cd
 outer:=outer
 stack:=envOfC qual scope s.heap.objs.size f cd::outer
 ex:=[]
 calm:=true
 fn:=fun _=>true
 pn:=[]
 xe:=fun e s'=>wpAny (model P w) (A.deeper (envOfC qual scope s.heap.objs.size f cd)) (leaving (envOfC qual scope s.heap.objs.size f cd) e) (fun _ ck=>CX outer H s E e ck) (fun e' ck=>CX outer H s E e' ck) s'
theorem OO {sc:Scope} {n:Nat} {x:Str} (h:sc.names.lookup x=some .cell):∃c,(cellsFrom n sc.names []).lookup x=some c:=by
 have q:=PySem.W.cellsFrom_some sc.names n [] (.inl h)
 exact Option.isSome_iff_exists.mp q
theorem Ss {CX:CXT} {P:Program} {w:World} {K:PySem.W.Frag} {mg:Str->Option Value} {base:Heap} {N ps:List Str} {qual:Str} {scope:Scope} {f:Addr} {cd:Value} {A:Around} {outer:List Env} {s s1:Shared} {H:Hp} {E:XK} {us:List Value} {vs:List V}
  (S:FnScope N ps scope) (hd:A.handled=none) (e0:Env0 P w K mg base A outer s H) (hl:vs.length=ps.length) (r:Vals vs us)
  (x:InCallC s s.heap.objs.size (bindL (envOfC qual scope s.heap.objs.size f cd).kindOf (ps.zip us) fun _=>none) (cellsFrom (s.heap.objs.size+1) scope.names []) (bindC (envOfC qual scope s.heap.objs.size f cd).kindOf (ps.zip us) fun _=>none) s1) :
  Inv (El CX P w K mg base N qual scope f cd A outer s H E) [] (start N vs) H s1:=by
 have hpl:ps.length≤N.length:=by have:=congrArg List.length S.pre;rw [List.length_take]at this;lia
 obtain ⟨h1,tk,rfl,hk⟩:=x.done
 have gV:∀b:Addr,b∉(El CX P w K mg base N qual scope f cd A outer s H E).ex:=fun b z=>absurd (show b∈([]:List Addr)from z) (by simp)
 refine ⟨⟨e0.mod,S.kind,rfl,rfl,Nat.le_refl _,fun y z c h1 h2=>?_,fun y hy=>?_,fun y c _ h=>?_,fun _=>hd,Around.frames_deeper e0.frames,.inr ⟨rfl,rfl⟩,fun b z=>absurd z (gV b),e0.bs,e0.bsz,fun b _ _=>gV b,fun b z=>absurd z (gV b),e0.funs,e0.frf⟩,
  rfl,e0.bare,Un.kept hk,⟨_,x.toInCall.ns,fun i y v h1 h2 h3=>?_⟩,fun y c h=>⟨_,x.cell y c h⟩,e0.hok.fresh (Nat.le_refl _),fun y c h=>?_,fun p hp=>absurd (show p∈([]:List (Addr×Obj))from hp) (by simp),e0.hok.kept hk,?_⟩
 ·exact name_of_addr x.apart (PySem.mem_of_lookup h1) (PySem.mem_of_lookup h2)
 ·have hy:scope.names.lookup y=some .cell\/scope.names.lookup y=some .free:=hy
  rcases hy with hy|hy
  ·exact OO hy
  ·exact absurd rfl (S.nofree _ (PySem.mem_of_lookup hy))
 ·exact Nat.le_of_lt (x.above y c (PySem.mem_of_lookup h))
 ·have hi:i<vs.length:=by
   unfold start at h2
   by_cases hi:i<vs.length
   ·exact hi
   ·rw [List.getElem?_append_right (by simpa using hi)]at h2
    rw [List.getElem?_replicate]at h2
    split at h2<;>cases h2
  have ha:vs[i]?=some v:=by
   unfold start at h2
   rw [List.getElem?_append_left (by simpa using hi),List.getElem?_map]at h2
   cases e:vs[i]? with
   |none=>rw [e]at h2;cases h2
   |some a=>rw [e]at h2;cases h2;rfl
  obtain ⟨u,hu,rv⟩:=r.get ha
  have hp:ps[i]?=some y:=by
   rw [<-S.pre,List.getElem?_take_of_lt (by lia)];exact h1
  have rf:ps.Nodup:=by rw [<-S.pre];exact S.nd.sublist (List.take_sublist _ _)
  refine ⟨u,rv,?_⟩
  rcases S.par y (List.mem_of_getElem? hp)with k|k
  ·exact .inl ⟨k,L0 rf hp hu k⟩
  ·obtain ⟨c,e⟩:=OO (n:=s.heap.objs.size+1) k
   refine .inr ⟨.inl k,c,e,?_⟩
   have q:=x.cell y c e
   rw [Mc rf hp hu (by show scope.names.lookup y≠_;rw [k];decide)]at q
   exact q
 ·exact e0.hok.fresh (Nat.le_of_lt (x.above y c (PySem.mem_of_lookup h)))
 ·unfold start
  show _=N.length
  rw [List.length_append,List.length_map,List.length_replicate]
  lia
theorem Vt {CX:CXT} {P:Program} {w:World} {K:PySem.W.Frag} {mg:Str->Option Value} {base:Heap} {k:Nat} {f:Addr} {name qual:Str} {params:Arguments} {body:List Stmt} {scope:Scope} {dV kV doc pm BO ct oc:Value} {an od:Option Addr}
  {Ws:Array (Option Value)} {N ps:List Str} {sp:Sp} (lk:K.lookup f=some ⟨oc,od,.func (PySem.W.fnOf name qual params body scope dV kV doc pm an BO ct),Ws⟩) (Qt:PySem.W.codeIn K BO qual=true) (S:FnScope N ps scope)
  (len:∀vs H Q E,sp vs H Q E->vs.length=ps.length)
  (VH:∀(A:Around) (outer:List Env) (s:Shared) (H:Hp) (vs:List V) (Q:VK) (E:XK),Room k (A.deeper (envOfC qual scope s.heap.objs.size f BO))->sp vs H Q E →
   ∃t,PSs (El CX P w K mg base N qual scope f BO A outer s H E) body t/\t { nx:=fun _ H'=>Q .non H',rt:=Q } (start N vs) H) :
  FnOk P w K mg base CX (k+1) f (PySem.W.fnOf name qual params body scope dV kV doc pm an BO ct) ps sp:=by
 refine ⟨len,fun A outer s H args us vs Q E hr e0 hb r RO=>?_⟩
 have hl:=len _ _ _ _ RO
 have KX:K.In s.heap:=e0.mod.kin.keeps fun b o e=>(e0.bs b o e).1
 have lim:s.heap.NoLimit:=e0.mod.nolimit.keeps fun b o e=>(e0.bs b o e).1
 have gG:∀y∈ps.zip us,scope.names.lookup y.1=some .local\/(scope.names.lookup y.1=some .cell/\((cellsFrom (s.heap.objs.size+1) scope.names []).lookup y.1).isSome=true):=fun ⟨n,v⟩ hy=>by
  rcases S.par n (List.of_mem_zip hy).1 with q|q
  ·exact .inl q
  ·exact .inr ⟨q,PySem.W.cellsFrom_some _ _ _ (.inl q)⟩
 refine codeAny_call_function hr.depth (KX _ _ lk) rfl S.co S.gen rfl (PySem.W.codeRec_of KX Qt) (hb _ _ _ _ ?_)
 refine wpAny_newFunctionEnv_cells S.kind gG fun env he s1 x=>?_
 subst he
 refine ⟨lim.keeps x.toInCall.keep,codeAny_func ?_⟩
 obtain ⟨t,ht,hq⟩:=VH A outer s H vs Q E (hr.deeper _) RO
 have I:Inv (El CX P w K mg base N qual scope f BO A outer s H E) [] (start N vs) H s1:=Ss S hr.hd e0 hl r x
 refine wpAny_mono (ht [] s1 (start N vs) H _ I hq) (fun fl s' hs=>?_) fun e s' hs=>hs
 have fin:∀{σ':St} {H':Hp} {v:V} {u:Value},Inv (El CX P w K mg base N qual scope f BO A outer s H E) [] σ' H' s'->RelV v u->Q v H'->CE outer P w H s Q u s':=
  fun {σ' H' v u} J rv q=>⟨v,H',J.os,J.bare,J.base,J.hok,rv,q⟩
 cases fl with
 |ret u=>
  obtain ⟨v,σ',H',J,rv,q⟩:=hs
  exact fin J rv q
 |next=>
  obtain ⟨σ',H',J,q⟩:=hs
  exact fin (v:=V.non) (u:=Value.none) J rfl q
 |brk=>
  obtain ⟨_,_,_,q⟩:=hs
  exact False.elim q
 |cont=>
  obtain ⟨_,_,_,q⟩:=hs
  exact False.elim q
section
variable {X:Cx}{x:Str}{p pos:Pos}{e:Expr}{es:List Expr}{t:TA}{id T:String}{r:List V->Hp->VK->Prop}
def tCB (r:List V->Hp->VK->Prop) (t:TA):TE:=fun σ H Q=>t σ H fun vs H1=>r vs H1 Q
theorem HL (hc:C2 X (.builtin id) r) (hg:Gl X x) (hm:X.mg x=none) (hv:bootBuiltins x=some (.builtin id)) (ha:PA X (e::es) t) (hn:x≠"__name__":=by decide) (E8:(x==("__debug__":Str))=false:=by decide)
  (he:starEach (e::es) X.env=(false,eval e X.env)::starEach es X.env:=by rfl) (hpl:(backTo pos (starEach es X.env)).any (·.1)=false:=by rfl):PE X (.Call (.Name x p) (e::es) [] pos) (tCB r t):=by
 intro pins s σ H Q I h
 refine wpAny_Call_Name_kw (Cr I hg hm hv ?_ hn E8)
 exact PyProof.Rows.callWith_builtin1 (thn (ha pos pins s σ H _ I h) fun us s1 ⟨vs,H1,I1,r1,q1⟩=>hc pins s1 σ H1 vs us Q I1 r1 q1) he hpl
theorem TQ (hc:C2 X (.type T) r) (hg:Gl X x) (hm:X.mg x=none) (hv:bootBuiltins x=some (.type T)) (ha:PA X (e::es) t) (hn:x≠"__name__":=by decide) (E8:(x==("__debug__":Str))=false:=by decide)
  (he:starEach (e::es) X.env=(false,eval e X.env)::starEach es X.env:=by rfl) (hpl:(backTo pos (starEach es X.env)).any (·.1)=false:=by rfl):PE X (.Call (.Name x p) (e::es) [] pos) (tCB r t):=by
 intro pins s σ H Q I h
 refine wpAny_Call_Name_kw (Cr I hg hm hv ?_ hn E8)
 exact PyProof.Rows.callWith_type1 (thn (ha pos pins s σ H _ I h) fun us s1 ⟨vs,H1,I1,r1,q1⟩=>hc pins s1 σ H1 vs us Q I1 r1 q1) he hpl
end
end L2
namespace HT
open PySem PyProof.Rows
def lexLt:List Int->List Int->Bool
 |[],[]=>false
 |[],_::_=>true
 |_::_,[]=>false
 |x::xs,y::ys=>if x=y then lexLt xs ys else decide (x<y)
theorem lexLt_cons (x y:Int) (xs ys:List Int):lexLt (x::xs) (y::ys)=if x=y then lexLt xs ys else decide (x<y):=rfl
section
variable {prog:Program}{w:World}{A:Around}{E:Value->Shared->Prop}{s:Shared}
def sIx (n d:Nat):Option Int->Nat
 |none=>d
 |some v=>if v<0 then (v+(n:Int)).toNat else min v.toNat n
theorem sIx_none (n d:Nat):sIx n d none=d:=rfl
theorem sIx_nat (n d k:Nat):sIx n d (some (k:Int))=min k n:=by
 show (if (k:Int)<0 then ((k:Int)+(n:Int)).toNat else min (k:Int).toNat n)=min k n
 rw [if_neg (by lia),Int.toNat_natCast]
theorem bo (n d:Nat) (hd:d≤n) (o:Option Int):sIx n d o≤n:=by
 cases o with
 |none=>exact hd
 |some v=>
  show (if v<0 then (v+(n:Int)).toNat else min v.toNat n)≤n
  by_cases hv:v<0
  ·rw [if_pos hv];lia
  ·rw [if_neg hv];exact Nat.min_le_right _ _
theorem Ru (v:Int) (n d:Nat):(if v<0 then max (v+(n:Int)) 0 else min v (n:Int))=((sIx n d (some v):Nat):Int):=by
 show (if v<0 then max (v+(n:Int)) 0 else min v (n:Int))=(((if v<0 then (v+(n:Int)).toNat else min v.toNat n):Nat):Int)
 by_cases hv:v<0
 ·simp only [if_pos hv];lia
 ·simp only [if_neg hv];lia
theorem Qo (lo hi:Option Int) (n:Nat):Builtin.Slice.sliceAdjust lo hi 1 (n:Int)=(((sIx n 0 lo:Nat):Int),((sIx n n hi:Nat):Int)):=by
 have h1:¬((1:Int)<0):=by lia
 unfold Builtin.Slice.sliceAdjust
 simp only [h1,if_false]
 refine Prod.ext ?_ ?_
 ·cases lo with
  |none=>rfl
  |some v=>exact Ru v n 0
 ·cases hi with
  |none=>rfl
  |some v=>exact Ru v n n
theorem QK (i j:Nat):Builtin.Slice.slicePlaces (i:Int) (j:Int) 1=j-i:=by
 unfold Builtin.Slice.slicePlaces
 have h1:(1:Int) > 0:=by lia
 simp only [h1,if_true,Int.ediv_one]
 split<;>lia
theorem Kj {v:Value} {o:Option Int} {Q:Option Int->Shared->Prop} (p:IsPart v o) (h:Q o s):wpAny (model prog w) A (Builtin.Slice.slicePartIndex v) Q E s:=by
 cases p with
 |none=>exact slicePart_none h
 |int i t=>exact slicePart_int h
theorem sliceApplied_gen {sl:Addr} {vl vu:Value} {lo hi:Option Int} {n:Nat} {Q:Int×Int×Nat->Shared->Prop} (hs:s.heap.IsSliceOf sl vl vu .none) (pl:IsPart vl lo) (pu:IsPart vu hi)
  (h:Q (((sIx n 0 lo:Nat):Int),1,sIx n n hi-sIx n 0 lo) s):wpAny (model prog w) A (Builtin.Slice.sliceApplied (.ref sl) (pure (n:Int))) Q E s:=by
 obtain ⟨os,Ju,gi,gT⟩:=id hs
 unfold Builtin.Slice.sliceApplied Builtin.Slice.sliceFields
 refine wpAny_bind (wpAny_bind (wpAny_field Ju gT (x:=vl) rfl (wpAny_bind (wpAny_field Ju gT (x:=vu) rfl (wpAny_bind (wpAny_field Ju gT (x:=.none) rfl (wpAny_pure ?_)))))))
 refine wpAny_bind (slicePart_none ?_)
 show wpAny _ _ (if ((1:Int)==0)=true then _ else _) _ _ s
 rw [if_neg (by decide)]
 refine wpAny_bind (Kj pl (wpAny_bind (Kj pu (wpAny_bind (wpAny_pure ?_)))))
 show wpAny _ _ (match Builtin.Slice.sliceAdjust lo hi 1 (n:Int)with|(lo,hi)=>pure (lo,(1:Int),Builtin.Slice.slicePlaces lo hi 1)) _ _ s
 rw [Qo lo hi n]
 show wpAny _ _ (pure (((sIx n 0 lo:Nat):Int),(1:Int),Builtin.Slice.slicePlaces ((sIx n 0 lo:Nat):Int) ((sIx n n hi:Nat):Int) 1)) _ _ s
 rw [QK]
 exact wpAny_pure h
theorem Vu (xs:Array Value) (i k:Nat):((List.range k).filterMap fun (m:Nat)=>xs[((i:Int)+(m:Int)*1).toNat]?).toArray=((xs.toList.drop i).take k).toArray:=by
 have e:(fun (m:Nat)=>xs[((i:Int)+(m:Int)*1).toNat]?)=fun m=>xs[i+m]?:=by
  funext m
  have:((i:Int)+(m:Int)*1).toNat=i+m:=by lia
  rw [this]
 rw [e]
 have:=pick_run xs i k
 rw [List.filterMap_map]at this
 have e2:((fun x=>xs[x]?) ∘ fun x=>i+x)=fun m=>xs[i+m]?:=rfl
 rw [e2]at this
 rw [this]
theorem getItem_tuple_cut {t sl:Addr} {items:Array Value} {vl vu:Value} {lo hi:Option Int} {Q:Value->Shared->Prop} (ht:IsTup s.heap t items) (hs:s.heap.IsSliceOf sl vl vu .none) (pl:IsPart vl lo) (pu:IsPart vu hi)
  (hw:¬(sIx items.size 0 lo=0/\sIx items.size items.size hi=items.size))
  (h:Q (.ref s.heap.objs.size) { s with heap:=s.heap.push { cls:=.type "tuple",data:=.seq ((items.toList.drop (sIx items.size 0 lo)).take (sIx items.size items.size hi-sIx items.size 0 lo)).toArray } })
  (hsz:items.size≤sizeLine):wpAny (model prog w) A (getItem (.ref t) (.ref sl)) Q E s:=by
 have RI:sizeOk (.seq ((items.toList.drop (sIx items.size 0 lo)).take (sIx items.size items.size hi-sIx items.size 0 lo)).toArray):=by
  show ((items.toList.drop (sIx items.size 0 lo)).take (sIx items.size items.size hi-sIx items.size 0 lo)).toArray.size≤sizeLine
  rw [List.size_toArray,List.length_take,List.length_drop,Array.length_toList]
  lia
 have hj:sIx items.size items.size hi≤items.size:=bo _ _ (Nat.le_refl _) hi
 obtain ⟨os,Ju,gi,gT⟩:=id hs
 have lr:s.TypeIs (.ref sl) "slice":=⟨os,Ju,gi⟩
 unfold getItem
 try with_reducible refine wpAny_holding ?_
 first|refine wpAny_bind (wpAny_pure ?_)|skip
 refine wpAny_bind (wpAny_sequenceKey ht.typeIs (by decide) ?_)
 refine wpAny_bind (wpAny_callSpecial?_slot (name:=Str.ofString "__getitem__") ht.typeIs PyProof.Rows.slot_tuple_getitem
  (wpAny_call_entry PyProof.Rows.slot_tuple_getitem ht.typeIs entry_tuple_getitem ?_ (args_tuple_getitem _ _)))
 show wpAny _ _ (Builtin.Tuple.tupleItemsOf (.ref t) >>= _) _ _ s
 refine wpAny_bind (tupleItemsOf_ ht ?_)
 refine wpAny_bind (wpAny_typeOf lr ?_)
 rw [if_pos (by decide)]
 refine wpAny_bind (sliceApplied_gen hs pl pu ?_)
 have ow:¬((((sIx items.size 0 lo:Nat):Int)==0&&(1:Int)==1&&(sIx items.size items.size hi-sIx items.size 0 lo)==items.size)=true):=by
  intro q
  rw [Bool.and_eq_true,Bool.and_eq_true]at q
  have q1:((sIx items.size 0 lo:Nat):Int)=0:=eq_of_beq q.1.1
  have q2:sIx items.size items.size hi-sIx items.size 0 lo=items.size:=eq_of_beq q.2
  exact hw ⟨by lia,by lia⟩
 show wpAny _ _ (if (((sIx items.size 0 lo:Nat):Int)==0&&(1:Int)==1&&(sIx items.size items.size hi-sIx items.size 0 lo)==items.size)=true then _ else _) _ _ s
 rw [if_neg ow,Vu]
 first
  |exact wpAny_bind (m:=Builtin.Tuple.tupleExact _) (wpAny_newObj_type (wpAny_pure ⟨_,rfl,wpAny_pure h⟩) RI)
  |exact wpAny_bind (m:=Builtin.Tuple.tupleExact _) (wpAny_newObj_type (wpAny_bind (wpAny_pure (wpAny_pure ⟨_,rfl,wpAny_pure h⟩))) RI)
  |exact wpAny_bind (wpAny_bind (m:=Builtin.Tuple.tupleExact _) (wpAny_newObj_type (wpAny_pure (wpAny_pure ⟨_,rfl,wpAny_pure h⟩)) RI))
  |exact wpAny_bind (wpAny_bind (m:=Builtin.Tuple.tupleExact _) (wpAny_newObj_type (wpAny_pure ⟨_,rfl,wpAny_pure h⟩) RI))
end
end HT
namespace L2
open PySem PySem.Spec PyProof.Rows
abbrev TO:=St->Hp->(Option Int->Hp->Prop)->Prop
def PO (X:Cx) (e:Option Expr) (t:TO):Prop:=
 ∀(pins:List (Addr×Obj)) (s:Shared) (σ:St) (H:Hp) (Q:Option Int->Hp->Prop),Inv X pins σ H s->t σ H Q →
  wpAny (model X.prog X.w) X.A (evalPart e X.env) (fun u s'=>∃o H',Inv X pins σ H' s'/\IsPart u o/\Q o H') X.xe s
def YC:TO:=fun _ H Q=>Q none H
def dD (t:TE):TO:=fun σ H Q=>t σ H fun x H1=>∃i,x=.int i/\Q (some i) H1
theorem K1 {ns:List Int}:∀{us:List Value},Vals (ns.map V.int) us->IntsAre us ns:=by
 induction ns with
 |nil=>intro us r;rw [List.map_nil]at r;cases r;exact .nil
 |cons n ns ih=>
  intro us r
  rw [List.map_cons]at r
  cases r with
  |cons r1 r2=>
   obtain ⟨t,e⟩:=r1
   subst e
   exact .cons n t (ih r2)
section
variable {X:Cx}{e:Expr}{te:TE}{lo hi:Option Expr}{tl th:TO}{pos p2:Pos}
theorem YM:PO X none YC:=by
 intro pins s σ H Q I h
 rw [evalPart_none]
 exact wpAny_pure ⟨none,H,I,.none,h⟩
theorem Xo (h:PE X e te):PO X (some e) (dD te):=by
 intro pins s σ H Q I hw
 rw [evalPart_some]
 refine thn (h pins s σ H _ I hw) fun u s1 ⟨x,H1,I1,r1,q1⟩=>?_
 obtain ⟨i,rfl,q⟩:=q1
 obtain ⟨t,rfl⟩:=r1
 exact ⟨some i,H1,I1,.int i t,q⟩
def SlR (X:Cx) (r:V->Option Int->Option Int->Hp->VK->Prop):Prop:=
 ∀(pins:List (Addr×Obj)) (s:Shared) (σ:St) (H:Hp) (x:V) (v vl vu:Value) (lo hi:Option Int) (sl:Addr) (Q:VK),Inv X pins σ H s->RelV x v->s.heap.IsSliceOf sl vl vu .none->IsPart vl lo->IsPart vu hi->r x lo hi H Q →
  ∃T id,typeLookup (.type T) "__getitem__"=pure (some (.builtin id))/\s.TypeIs v T/\wpAny (model X.prog X.w) X.A (getItem v (.ref sl)) (EP X pins σ Q) X.xe s
def tSl (r:V->Option Int->Option Int->Hp->VK->Prop) (te:TE) (tl th:TO):TE:=fun σ H Q=>te σ H fun x H1=>tl σ H1 fun l H2=>th σ H2 fun u H3=>r x l u H3 Q
theorem LU {r:V->Option Int->Option Int->Hp->VK->Prop} (hr:SlR X r) (he:PE X e te) (hl:PO X lo tl) (hu:PO X hi th):PE X (.Subscript e (.Slice lo hi none p2) pos) (tSl r te tl th):=by
 intro pins s σ H Q I h
 refine Subscript_ (thn (he pins s σ H _ I h) fun v s1 ⟨x,H1,I1,r1,q1⟩=>?_)
 refine wpAny_Slice (thn (hl pins s1 σ H1 _ I1 q1) fun vl s2 ⟨l,H2,I2,pl,q2⟩=>thn (hu pins s2 σ H2 _ I2 q2) fun vu s3 ⟨u,H3,I3,pu,q3⟩=>?_)
 rw [evalPart_none]
 refine wpAny_pure ?_
 have I4:Inv X pins σ H3 { s3 with heap:=s3.heap.push { cls:=.type "slice",data:=.fields #[vl,vu,.none] } }:=I3.kept (t':=s3.toks) fun b ob q=>Heap.get?_push_of_some _ q
 obtain ⟨T,id,hT,ht,hg⟩:=hr pins { s3 with heap:=s3.heap.push { cls:=.type "slice",data:=.fields #[vl,vu,.none] } } σ H3 x v vl vu l u s3.heap.objs.size Q I4 r1 (Heap.IsSliceOf.new ..) pl pu q3
 show wpAny (model X.prog X.w) X.A (subscriptTail e (.Slice lo hi none p2) v (.ref s3.heap.objs.size)) (EP X pins σ Q) X.xe { s3 with heap:=s3.heap.push { cls:=.type "slice",data:=.fields #[vl,vu,.none] } }
 exact tail_any (ops:=[.ref s3.heap.objs.size,v]) ht hT hg (by with_unfolding_all rfl)
def JV (xs:List V) (lo hi:Option Int):List V:=(xs.drop (HT.sIx xs.length 0 lo)).take (HT.sIx xs.length xs.length hi-HT.sIx xs.length 0 lo)
theorem Iv (xs:List V) (lo hi:Option Int):(JV xs lo hi).length≤xs.length:=by
 unfold JV
 rw [List.length_take,List.length_drop]
 lia
def nX (K:PySem.W.Frag):V->Option Int->Option Int->Hp->VK->Prop:=fun x lo hi H Q=>∃a xs,x=.ref a/\SqT K H a xs ∧
 ¬(HT.sIx xs.length 0 lo=0/\HT.sIx xs.length xs.length hi=xs.length)/\∀p,H p=none->Q (.ref p) (upd H p (.tup (JV xs lo hi)))
theorem bF:SlR X (nX X.K):=by
 intro pins s σ H x v vl vu lo hi sl Q I rx hs pl pu h
 obtain ⟨a,xs,rfl,hx,hw,q⟩:=h
 cases rx
 obtain ⟨its,r,ht,hz⟩:=I.tuple hx
 have hlen:its.toArray.size=xs.length:=by rw [List.size_toArray];exact r.length.symm
 refine ⟨"tuple",_,PyProof.Rows.slot_tuple_getitem.lookup,ht.typeIs,?_⟩
 refine HT.getItem_tuple_cut ht hs pl pu (by rw [hlen];exact hw) ?_ (by rw [hlen];exact hz)
 rw [hlen]
 refine ⟨.ref s.heap.objs.size,_,I.laid (t':=s.toks) (o:=.tup (JV xs lo hi)) (fun b ob q=>Heap.get?_push_of_some _ q) (Nat.le_refl _) ?_,rfl,q _ (I.hok.fresh (Nat.le_refl _))⟩
 exact ⟨Nat.le_trans (Iv xs lo hi) hz,_,(r.drop (HT.sIx xs.length 0 lo)).take (HT.sIx xs.length xs.length hi-HT.sIx xs.length 0 lo),IsTup.new _ _⟩
end
def ixN (n:Nat) (i:Int):Option Nat:=if 0≤i then (if i<n then some i.toNat else none)else if -(n:Int)≤i then some (i+n).toNat else none
def atI {α:Type} (xs:List α) (i:Int):Option α:=(ixN xs.length i).bind fun j=>xs[j]?
theorem W3 {n:Nat} {i:Int} {j:Nat} (h:ixN n i=some j):seqIndex? i n=some j/\j<n/\-(n:Int)≤i/\i<n:=by
 unfold ixN at h
 by_cases h0:0≤i
 ·rw [if_pos h0]at h
  by_cases h1:i<n
  ·rw [if_pos h1]at h
   have e:i.toNat=j:=Option.some.inj h
   exact ⟨by rw [seqIndex_of h0 h1,e],by lia,by lia,h1⟩
  ·rw [if_neg h1]at h;cases h
 ·rw [if_neg h0]at h
  by_cases h1:-(n:Int)≤i
  ·rw [if_pos h1]at h
   have e:(i+n).toNat=j:=Option.some.inj h
   exact ⟨by rw [seqIndex_neg (by lia) h1,e],by lia,h1,by lia⟩
  ·rw [if_neg h1]at h;cases h
theorem Mo {α:Type} {xs:List α} {i:Int} {v:α} (h:atI xs i=some v):∃j,seqIndex? i xs.length=some j/\xs[j]?=some v/\j<xs.length/\-(xs.length:Int)≤i/\i<xs.length:=by
 unfold atI at h
 cases e:ixN xs.length i with
 |none=>rw [e]at h;cases h
 |some j=>
  rw [e]at h
  obtain ⟨h1,h2,h3,h4⟩:=W3 e
  exact ⟨j,h1,h,h2,h3,h4⟩
theorem GA {α:Type} {xs:List α} {j:Nat} {v:α} (h:xs[j]?=some v):atI xs (j:Int)=some v:=by
 have hj:j<xs.length:=(List.getElem?_eq_some_iff.mp h).1
 have e:ixN xs.length (j:Int)=some j:=by
  unfold ixN
  rw [if_pos (by lia),if_pos (by lia)];simp
 unfold atI;rw [e];exact h
def Fq (b:Expr):Prop:=∀o i,subscripted b false o i=operate [o,i] (getItem o i)
def IxR (X:Cx) (r:R2):Prop:=
 ∀(value slice:Expr) (pins:List (Addr×Obj)) (s:Shared) (σ:St) (H:Hp) (x y:V) (v u:Value) (Q:VK),Inv X pins σ H s->RelV x v->RelV y u->r x y H Q →
  subscripted slice false v u=operate [v,u] (getItem v u)->wpAny (model X.prog X.w) X.A (subscriptTail value slice v u) (EP X pins σ Q) X.xe s
def MtR (X:Cx) (id:String) (r:V->List V->Hp->VK->Prop):Prop:=
 ∀(pins:List (Addr×Obj)) (s:Shared) (σ:St) (H:Hp) (x:V) (xs:List V) (v:Value) (us:List Value) (Q:VK),Inv X pins σ H s->RelV x v->Vals xs us->r x xs H Q →
  wpAny (model X.prog X.w) X.A (call (.builtin id) (v::us)) (EP X pins σ Q) X.xe s
section
variable {X:Cx}{a b:Expr}{ta tb:TE}{pos:Pos}
theorem Ri {r:R2} (hr:IxR X r) (ha:PE X a ta) (hb:PE X b tb) (hs:Fq b):PE X (.Subscript a b pos) (tOp r ta tb):=by
 intro pins s σ H Q I h
 exact Subscript_ (ee ha hb I h fun v u s2 x y H2 I2 rx ry q=>hr a b pins s2 σ H2 x y v u Q I2 rx ry q (hs _ _))
def mG (K:PySem.W.Frag):R2:=fun x y H Q=>∃p xs i v,x=.ref p/\y=.int i/\SqL K H p xs/\atI xs i=some v/\Q v H
def nu (K:PySem.W.Frag):R2:=fun x y H Q=>∃p xs i v,x=.ref p/\y=.int i/\SqT K H p xs/\atI xs i=some v/\Q v H
def kj:R2:=fun x y H Q=>∃z i c,x=.str z/\y=.int i/\z.length≤sizeLine/\atI z.cps.toList i=some c/\Q (.str ⟨#[c]⟩) H
theorem SO:IxR X (mG X.K):=by
 intro value slice pins s σ H x y v u Q I rx ry h hs
 obtain ⟨p,xs,i,z,rfl,rfl,hq,he,q⟩:=h
 cases rx
 obtain ⟨t,rfl⟩:=ry
 obtain ⟨its,r,pl,hz⟩:=I.list hq
 obtain ⟨j,h1,h2,h3,h4,h5⟩:=Mo he
 obtain ⟨w,ew,cA⟩:=r.get h2
 have hl:=r.length
 have hn:=Ib
 have fin:EP X pins σ Q w s:=⟨z,H,I,cA,q⟩
 by_cases h0:0≤i
 ·have hj:i.toNat=j:=by
   rw [seqIndex_of h0 h5]at h1
   exact Option.some.inj h1
  exact item_listR pl.isList h0 (by lia) (by rw [hj];simpa using ew) fin hs
 ·have hj:(i+(its.toArray.size:Int)).toNat=j:=by
   rw [seqIndex_neg (by lia) h4]at h1
   rw [List.size_toArray,<-hl]
   exact Option.some.inj h1
  exact subscriptTail_builtinR (x:=w) pl.isList.typeIs slot_list_getitem.lookup
   (wpAny_getItem_list_neg (Q:=fun r s'=>r=w/\EP X pins σ Q r s') pl.isList (by lia) (by rw [List.size_toArray]<;>lia) (by lia) (by rw [hj];simpa using ew) ⟨rfl,fin⟩) hs
theorem ak:IxR X (nu X.K):=by
 intro value slice pins s σ H x y v u Q I rx ry h hs
 obtain ⟨p,xs,i,z,rfl,rfl,hq,he,q⟩:=h
 cases rx
 obtain ⟨t,rfl⟩:=ry
 obtain ⟨its,r,pl,hz⟩:=I.tuple hq
 obtain ⟨j,h1,h2,h3,h4,h5⟩:=Mo he
 obtain ⟨w,ew,cA⟩:=r.get h2
 have hl:=r.length
 have hn:=Ib
 have fin:EP X pins σ Q w s:=⟨z,H,I,cA,q⟩
 exact subscriptTail_builtinR (x:=w) pl.typeIs slot_tuple_getitem.lookup
  (getItem_tuple (j:=j) (Q:=fun r s'=>r=w/\EP X pins σ Q r s') pl (by lia) (by lia) (by rw [List.size_toArray,<-hl];exact h1) (by simpa using ew) ⟨rfl,fin⟩) hs
theorem bC:IxR X kj:=by
 intro value slice pins s σ H x y v u Q I rx ry h hs
 obtain ⟨z,i,c,rfl,rfl,hz,he,q⟩:=h
 obtain ⟨t,rfl⟩:=rx
 obtain ⟨t',rfl⟩:=ry
 obtain ⟨j,h1,h2,h3,h4,h5⟩:=Mo he
 have hl:z.cps.toList.length=z.length:=by simp [Str.length]
 rw [hl]at h1 h4 h5
 have hn:=Ib
 exact tail_any (typeIs_str s z t) slot_str_getitem.lookup (getItem_str (c:=c) (by
  have e1:decide (i < -(2 ^ 63:Int))=false:=decide_eq_false (by lia)
  have e2:decide (i≥2 ^ 63)=false:=decide_eq_false (by lia)
  rw [e1,e2,Bool.or_false]) (by rw [h1];simpa using h2) ⟨.str ⟨#[c]⟩,H,I.tok _,⟨_,rfl⟩,q⟩) hs
theorem M5 (lo hi:Option Int) (n:Nat):(sliceBounds lo hi none n).1=((HT.sIx n 0 lo:Nat):Int)/\(sliceBounds lo hi none n).2.1=((HT.sIx n n hi:Nat):Int)/\(sliceBounds lo hi none n).2.2=1:=by
 refine ⟨?_,?_,rfl⟩
 ·cases lo with
  |none=>simp [sliceBounds,HT.sIx]
  |some i=>
   simp only [sliceBounds,HT.sIx,Option.getD_none,show (1:Int) > 0 by decide,if_true]
   by_cases h:i<0
   ·simp only [h,if_true]<;>lia
   ·simp only [h,if_false]<;>lia
 ·cases hi with
  |none=>simp [sliceBounds,HT.sIx]
  |some i=>
   simp only [sliceBounds,HT.sIx,Option.getD_none,show (1:Int) > 0 by decide,if_true]
   by_cases h:i<0
   ·simp only [h,if_true]<;>lia
   ·simp only [h,if_false]<;>lia
theorem LW (its:List Value) (lo hi:Option Int):slicePick its.toArray lo hi none=((its.drop (HT.sIx its.length 0 lo)).take (HT.sIx its.length its.length hi-HT.sIx its.length 0 lo)).toArray:=by
 obtain ⟨h1,h2,h3⟩:=M5 lo hi its.toArray.size
 unfold slicePick
 rw [h1,h2,h3]
 simp only [sliceRange_one,pick_run,List.size_toArray]<;>rfl
def ki (K:PySem.W.Frag):V->Option Int->Option Int->Hp->VK->Prop:=fun x lo hi H Q=>∃a xs,x=.ref a/\SqL K H a xs/\∀p,H p=none->Q (.ref p) (upd H p (.lst (JV xs lo hi)))
theorem W5:SlR X (ki X.K):=by
 intro pins s σ H x v vl vu lo hi sl Q I rx hs pl pu h
 obtain ⟨a,xs,rfl,hx,q⟩:=h
 cases rx
 obtain ⟨its,r,ht,hz⟩:=I.list hx
 have hlen:=r.length
 refine ⟨"list",_,slot_list_getitem.lookup,ht.isList.typeIs,?_⟩
 refine wpAny_getItem_list_slice ht.isList hs pl pu .none (by simp) ?_ (by rw [List.size_toArray]<;>lia)
 rw [LW,<-hlen]
 refine ⟨.ref s.heap.objs.size,_,I.laid (t':=s.toks) (o:=.lst (JV xs lo hi)) (fun b ob q=>Heap.get?_push_of_some _ q) (Nat.le_refl _) ?_,rfl,q _ (I.hok.fresh (Nat.le_refl _))⟩
 exact ⟨Nat.le_trans (Iv xs lo hi) hz,_,0,(r.drop (HT.sIx xs.length 0 lo)).take (HT.sIx xs.length xs.length hi-HT.sIx xs.length 0 lo),Heap.get?_push_size _ rfl⟩
def V3:V->Bool
 |.non=>true
 |.bl _=>true
 |.int _=>true
 |.str _=>true
 |_=>false
def eqV:V->V->Bool
 |.non,.non=>true
 |.bl a,.bl b=>a==b
 |.bl a,.int b=>(if a then 1 else 0)==b
 |.int a,.bl b=>a==(if b then 1 else 0)
 |.int a,.int b=>a==b
 |.str a,.str b=>a==b
 |_,_=>false
theorem au {A:Around} {s:Shared} {y x:V} {u v:Value} (ry:RelV y u) (rx:RelV x v) (fy:V3 y=true) (fx:V3 x=true):SeqAt.EqAt A s u v (eqV y x):=by
 cases y with
 |non=>
  cases ry
  cases x with
  |non=>cases rx;exact SeqAt.EqAt.same _
  |bl b=>cases rx;exact SeqAt.EqAt.none_bool b
  |int b=>obtain ⟨t,rfl⟩:=rx;exact SeqAt.EqAt.none_int b t
  |str b=>obtain ⟨t,rfl⟩:=rx;exact SeqAt.EqAt.none_str b t
  |_=>exact absurd (show false=true from fx) Bool.false_ne_true
 |bl a=>
  cases ry
  cases x with
  |non=>cases rx;exact SeqAt.EqAt.bool_none a
  |bl b=>cases rx;exact SeqAt.EqAt.bool_bool a b
  |int b=>obtain ⟨t,rfl⟩:=rx;exact SeqAt.EqAt.bool_int a b t
  |str b=>obtain ⟨t,rfl⟩:=rx;exact SeqAt.EqAt.bool_str a b t
  |_=>exact absurd (show false=true from fx) Bool.false_ne_true
 |int a=>
  obtain ⟨t',rfl⟩:=ry
  cases x with
  |non=>cases rx;exact SeqAt.EqAt.int_none a t'
  |bl b=>cases rx;exact SeqAt.EqAt.int_bool a t' b
  |int b=>obtain ⟨t,rfl⟩:=rx;exact SeqAt.EqAt.int_int a t' b t
  |str b=>obtain ⟨t,rfl⟩:=rx;exact SeqAt.EqAt.int_str a t' b t
  |_=>exact absurd (show false=true from fx) Bool.false_ne_true
 |str a=>
  obtain ⟨t',rfl⟩:=ry
  cases x with
  |non=>cases rx;exact SeqAt.EqAt.str_none a t'
  |bl b=>cases rx;exact SeqAt.EqAt.str_bool a t' b
  |int b=>obtain ⟨t,rfl⟩:=rx;exact SeqAt.EqAt.str_int a t' b t
  |str b=>obtain ⟨t,rfl⟩:=rx;exact SeqAt.EqAt.str_str a t' b t
  |_=>exact absurd (show false=true from fx) Bool.false_ne_true
 |_=>exact absurd (show false=true from fy) Bool.false_ne_true
theorem Nb:C2 X (.builtin "len") (fun xs H Q=>∃p ys,xs=[.ref p]/\(SqL X.K H p ys\/SqT X.K H p ys)/\Q (.int ys.length) H):=by
 intro pins s σ H xs us Q I r h
 obtain ⟨p,ys,rfl,hq,q⟩:=h
 obtain ⟨u,rfl,rx⟩:=HU r
 cases rx
 have hn:=Ib
 rcases hq with hq|hq
 ·obtain ⟨its,r',pl,hz⟩:=I.list hq
  have hlen:=r'.length
  exact Calls.call_len_list pl.isList (by simp only [List.size_toArray]<;>lia) ⟨.int ys.length,H,I.tok _,⟨s.toks+1,by rw [List.size_toArray,hlen]⟩,q⟩
 ·obtain ⟨its,r',pl,hz⟩:=I.tuple hq
  have hlen:=r'.length
  exact len_tuple pl (by simp only [List.size_toArray]<;>lia) ⟨.int ys.length,H,I.tok _,⟨s.toks+1,by rw [List.size_toArray,hlen]⟩,q⟩
theorem ND:C2 X (.builtin "len") (fun xs H Q=>∃z,xs=[.str z]/\z.length≤sizeLine/\Q (.int z.length) H):=by
 intro pins s σ H xs us Q I r h
 obtain ⟨z,rfl,hz,q⟩:=h
 obtain ⟨u,rfl,t,rfl⟩:=HU r
 have hn:=Ib
 exact len_str (by lia) ⟨.int z.length,H,I.tok _,⟨_,rfl⟩,q⟩
theorem Nn:C2 X (.type "list") (fun xs H Q=>∃p ys,xs=[.ref p]/\(SqL X.K H p ys\/SqT X.K H p ys)/\∀l,H l=none->Q (.ref l) (upd H l (.lst ys))):=by
 intro pins s σ H xs us Q I r h
 obtain ⟨p,ys,rfl,hq,q⟩:=h
 obtain ⟨u,rfl,rx⟩:=HU r
 cases rx
 have fin:∀(its:List Value),Vals ys its->ys.length≤sizeLine->∀(h':Heap) (c':Nat),(∀b o',s.heap.get? b=some o'->h'.get? b=some o') →
   h'.get? s.heap.objs.size=some { cls:=.type "list",dict:=none,data:=.seq its.toArray c',slots:=#[] }->EP X pins σ Q (.ref s.heap.objs.size) { s with heap:=h' }:=fun its r' hz h' c' kp e=>
  ⟨.ref s.heap.objs.size,_,I.laid (t':=s.toks) kp (Nat.le_refl _) (show ObjOk X.prog X.w _ h' _ (.lst ys)from ⟨hz,its,c',r',e⟩),rfl,q _ (I.hok.fresh (Nat.le_refl _))⟩
 rcases hq with hq|hq
 ·obtain ⟨its,r',pl,hz⟩:=I.list hq
  have hlen:=r'.length
  obtain ⟨o,ho,hc,n,hd⟩:=pl.isList
  exact call_list_seq p (.inl rfl) ho hc hd (fun h' c' kp e=>fin its r' hz h' c' kp e) (by simp only [List.size_toArray]<;>lia)
 ·obtain ⟨its,r',pl,hz⟩:=I.tuple hq
  have hlen:=r'.length
  obtain ⟨o,ho,hc,n,hd⟩:=pl
  exact call_list_seq p (.inr rfl) ho hc hd (fun h' c' kp e=>fin its r' hz h' c' kp e) (by simp only [List.size_toArray]<;>lia)
theorem Ge:C2 X (.type "tuple") (fun xs H Q=>∃p ys,xs=[.ref p]/\((SqL X.K H p ys/\∀l,H l=none->Q (.ref l) (upd H l (.tup ys)))\/(SqT X.K H p ys/\Q (.ref p) H))):=by
 intro pins s σ H xs us Q I r h
 obtain ⟨p,ys,rfl,h⟩:=h
 obtain ⟨u,rfl,rx⟩:=HU r
 cases rx
 rcases h with ⟨hq,q⟩|⟨hq,q⟩
 ·obtain ⟨its,r',pl,hz⟩:=I.list hq
  have hlen:=r'.length
  refine call_tuple_list pl.isList (fun h' kp=>?_) (by simp only [List.size_toArray]<;>lia)
  have I1:Inv X pins σ H { s with heap:=h' }:=I.kept (t':=s.toks) kp
  have I2:Inv X pins σ (upd H h'.objs.size (.tup ys)) { s with heap:=h'.push { cls:=.type "tuple",data:=.seq its.toArray } }:=
   I1.laid (t':=s.toks) (fun b o e=>Heap.get?_push_of_some _ e) (Nat.le_refl _) (show ObjOk X.prog X.w _ _ _ (.tup ys)from ⟨hz,its,r',IsTup.new _ _⟩)
  exact ⟨.ref h'.objs.size,_,I2,rfl,q _ (I1.hok.fresh (Nat.le_refl _))⟩
 ·obtain ⟨its,r',pl,hz⟩:=I.tuple hq
  exact call_tuple_same pl ⟨.ref p,H,I,rfl,q⟩
def tyV (K:PySem.W.Frag) (T:String) (x:V) (H:Hp):Prop:=match x with
 |.str _=>T = "str"
 |.int _=>T = "int"
 |.ref p=>(T = "list"/\∃xs,SqL K H p xs)\/(T = "tuple"/\∃o,K.lookup p=some o/\o.cls=.type "tuple"/\o.dict=none) ∨
   (T = "dict"/\((∃kvs,H p=some (.dK kvs))\/∃kvs,H p=some (.dT kvs)))\/(T = "set"/\∃S n,H p=some (.set S n))
 |_=>False
theorem bq {pins:List (Addr×Obj)} {σ:St} {H:Hp} {s:Shared} {T:String} {x:V} {v:Value} (I:Inv X pins σ H s) (r:RelV x v) (ty:tyV X.K T x H) :
  s.TypeIs v T/\∀a,v=.ref a->∃ob,s.heap.get? a=some ob/\ob.dict=none:=by
 cases x with
 |str z=>
  obtain ⟨t,rfl⟩:=r
  cases (show T = "str" from ty)
  exact ⟨typeIs_str s z t,fun _ e=>nomatch e⟩
 |int i=>
  obtain ⟨t,rfl⟩:=r
  cases (show T = "int" from ty)
  exact ⟨typeIs_int s i t,fun _ e=>nomatch e⟩
 |ref p=>
  cases r
  rcases ty with ⟨rfl,xs,hq⟩|⟨rfl,o,hk,hc,hd⟩|⟨rfl,hk⟩|⟨rfl,S,n,hk⟩
  ·obtain ⟨its,_,pl,_⟩:=I.list hq
   refine ⟨pl.isList.typeIs,fun a e=>?_⟩
   cases e
   obtain ⟨o,n,e,c,hd,_⟩:=pl
   exact ⟨o,e,hd⟩
  ·refine ⟨⟨o,I.kIn p o hk,hc⟩,fun a e=>?_⟩
   cases e
   exact ⟨o,I.kIn _ o hk,hd⟩
  ·have z:∃o,s.heap.get? p=some o/\o.ExactDict:=by
    rcases hk with ⟨kvs,hk⟩|⟨kvs,hk⟩
    ·obtain ⟨_,_,_,_,o,_,_,e,ex,_⟩:=I.hok p _ hk
     exact ⟨o,e,ex⟩
    ·obtain ⟨_,_,_,_,o,_,_,e,ex,_⟩:=I.hok p _ hk
     exact ⟨o,e,ex⟩
   obtain ⟨o,e,ex⟩:=z
   refine ⟨⟨o,e,ex.1⟩,fun a e2=>?_⟩
   cases e2
   exact ⟨o,e,ex.2.1⟩
  ·obtain ⟨o,_,_,_,e,ex,_⟩:=I.hok p _ hk
   refine ⟨⟨o,e,ex.1⟩,fun a e2=>?_⟩
   cases e2
   exact ⟨o,e,ex.2.1⟩
 |_=>exact False.elim ty
def tBM (K:PySem.W.Frag) (T:String) (r:V->List V->Hp->VK->Prop) (to:TE) (t:TA):TE:=fun σ H Q=>to σ H fun x H1=>tyV K T x H1/\t σ H1 fun xs H2=>r x xs H2 Q
variable {o e:Expr}{es:List Expr}{to:TE}{t:TA}{name:Str}{apos Ae:Pos}{T id:String}{r:V->List V->Hp->VK->Prop}
theorem Ze (pa:PlainAttrs T) (slot:Slot T name id) (iF:typeOf (.builtin id)=pure (.type "method_descriptor")) (hm:MtR X id r) (ho:PE X o to) (ha:PA X (e::es) t)
  (C6:attributeBase o name X.env (eval o X.env)=eval o X.env:=by rfl)
  (KR:((backTo Ae (starEach (e::es) X.env)).all (fun x=>!x.1)&&(backToKw Ae (keywordEach [] X.env)).all (fun x=>x.1.isSome)
   && decide ((e::es).length+([]:List Keyword).length+(if ([]:List Keyword).isEmpty then 0 else 1)<30))=true:=by rfl)
  (CG:(apos.endLine==Ae.line)=true:=by rfl) (hs:starEach (e::es) X.env=(false,eval e X.env)::starEach es X.env:=by rfl) (K5:(backTo Ae (starEach es X.env)).any (·.1)=false:=by rfl) :
  PE X (.Call (.Attribute o name apos) (e::es) [] Ae) (tBM X.K T r to t):=by
 intro pins s σ H Q I h
 refine wpAny_Call_method_late C6 KR CG rfl (thn (ho pins s σ H _ I h) fun v s1 ⟨x,H1,I1,r1,ty,q1⟩=>?_)
 obtain ⟨h1,h2⟩:=bq I1 r1 ty
 refine ⟨T,id,pa,slot,iF,h1,h2,?_⟩
 have hA:=ha Ae pins s1 σ H1 _ I1 q1
 rw [hs]at hA ⊢
 refine Calls.callWith_builtin (by show (false||(backTo Ae (starEach es X.env)).any (·.1))=false;rw [K5]<;>rfl) (Calls.evalArgs_plain ?_)
 exact thn hA fun us s2 ⟨vs,H2,I2,r2,q2⟩=>hm pins s2 σ H2 x vs v us Q I2 r1 r2 q2
end
def MtM (X:Cx) (id:String) (r:V->List V->Hp->VK->Prop):Prop:=
 ∀(pins:List (Addr×Obj)) (s:Shared) (σ:St) (H:Hp) (x:V) (xs:List V) (v:Value) (us:List Value) (Q:VK),Inv X pins σ H s->RelV x v->Vals xs us->r x xs H Q →
  wpAny (model X.prog X.w) X.A (call (.builtin id) (v::us)) (EP X pins σ Q) X.xe s
theorem Vals.one:∀{x:V} {us:List Value},Vals [x] us->∃u,us=[u]/\RelV x u
 |_,_,.cons r .nil=>⟨_,rfl,r⟩
theorem Vals.zero:∀{us:List Value},Vals [] us->us=[]
 |_,.nil=>rfl
section
variable {X:Cx}{pins:List (Addr×Obj)}{σ:St}{H:Hp}{s:Shared}{l b:Addr}{xs ys zs:List V}
theorem Inv.lset {its its':List Value} {n:Nat} {f:Array Value->Array Value} {t':Nat} (I:Inv X pins σ H s) (hH:H l=some (.lst xs))
  (e:s.heap.get? l=some { cls:=.type "list",data:=.seq its.toArray n }) (hf:f its.toArray=its'.toArray) (hv:Vals ys its') (hz:ys.length≤sizeLine) :
  Inv X pins σ (upd H l (.lst ys)) { s with heap:=s.heap.update l (Obj.mapSeq f),toks:=t' }:=by
 have q:=PySem.IsL.update e f
 rw [hf]at q
 refine I.write (x:=l) (e:=l) (by rw [hH];exact trivial) (.inl rfl) (fun b' u hb hu=>(Heap.get?_update_other s.heap (Obj.mapSeq f) (Ne.symm hb)).trans hu) ⟨_,q⟩ ?_
 exact ⟨hz,its',_,hv,q⟩
theorem Inv.lnew {its:List Value} {t':Nat} (I:Inv X pins σ H s) (hv:Vals ys its) (hz:ys.length≤sizeLine) :
  Inv X pins σ (upd H s.heap.objs.size (.lst ys)) { s with heap:=s.heap.push { cls:=.type "list",data:=.seq its.toArray },toks:=t' }:=
 I.laid (fun _ _ q=>Heap.get?_push_of_some _ q) (Nat.le_refl _) ⟨hz,its,0,hv,Heap.get?_push_size _ rfl⟩
theorem Inv.fresh (I:Inv X pins σ H s):H s.heap.objs.size=none:=I.hok.fresh (Nat.le_refl _)
theorem Inv.lstM (I:Inv X pins σ H s) (hH:H l=some (.lst xs)):xs.length≤sizeLine/\∃(its:List Value) (n:Nat),Vals xs its/\xs.length=its.length/\s.heap.get? l=some { cls:=.type "list",data:=.seq its.toArray n }:=by
 obtain ⟨z,its,n,r,e⟩:=I.hok l _ hH
 exact ⟨z,its,n,r,r.length,e⟩
theorem Wn {n:Nat} (h:n≤sizeLine):Builtin.List.listTooLong n=false:=by
 unfold Builtin.List.listTooLong
 exact decide_eq_false (by lia)
end
section
variable {X:Cx}
def W9:V->List V->Hp->VK->Prop:=fun x vs H Q=>∃l xs y,x=.ref l/\vs=[y]/\H l=some (.lst xs)/\xs.length<sizeLine/\Q .non (upd H l (.lst (xs++[y])))
theorem Me:MtM X "list.append" W9:=by
 intro pins s σ H x vs v us Q I rx rv h
 obtain ⟨l,xs,y,rfl,rfl,hH,hz,q⟩:=h
 cases rx
 obtain ⟨u,rfl,ru⟩:=rv.one
 obtain ⟨z,its,n,r,hl,e⟩:=I.lstM hH
 refine call_meets F.slot_list_append ⟨_,e,rfl⟩ F.entry_list_append (F.args_list_append_2 _ _) (PySem.list_append l its.toArray n u (by rw [List.size_toArray];lia)) ⟨e,?_⟩
 refine ⟨.non,_,I.lset (its':=its++[u]) hH e (by simp) (r.append (.cons ru .nil)) ?_,rfl,q⟩
 rw [List.length_append,List.length_singleton]
 lia
def mX:R2:=fun x y H Q=>∃l b xs zs,x=.ref l/\y=.ref b/\H l=some (.lst xs)/\H b=some (.lst zs)/\xs.length+zs.length≤sizeLine/\∀p,H p=none->Q (.ref p) (upd H p (.lst (xs++zs)))
theorem Ut:OpR X (binaryOp .Add) mX:=by
 intro pins s σ H x y v u Q I rx ry h
 obtain ⟨l,b,xs,zs,rfl,rfl,hH,hB,hz,q⟩:=h
 cases rx
 cases ry
 obtain ⟨z,its,n,r,hl,e⟩:=I.lstM hH
 obtain ⟨z2,Lh,n2,r2,SW,e2⟩:=I.lstM hB
 refine PySem.P.add_list e e2 ?_ (by rw [List.size_toArray,List.size_toArray];lia)
 have ea:its.toArray++Lh.toArray=(its++Lh).toArray:=by simp
 rw [ea]
 exact ⟨.ref _,_,I.lnew (t':=s.toks) (r.append r2) (by rw [List.length_append];lia),rfl,q _ I.fresh⟩
end
end L2
namespace Att
open PySem PySem.W PySem.Calls PyProof.Rows
theorem JX {P:Params} {h:Heap}:∀(ns:List Int) (vs:List Value),WellAll P h vs (ns.map WData.int)->IntsAre vs ns:=by
 intro ns
 induction ns with
 |nil=>
  intro vs w
  rw [List.map_nil]at w
  cases w
  exact .nil
 |cons n ns ih=>
  intro vs w
  rw [List.map_cons]at w
  cases w with
  |cons a b=>
   cases a
   exact .cons _ _ (ih _ b)
theorem Tg {l:OpenLaw} {n:Nat} (hn:l.most=some n) {P:Params} {h:Heap} {args:List WData} {vals:List Value}
  (Nk:l.row.toRowW.claim.pre args=true) (jA:WellAll P h vals args) :
  ∃a vs ns,vals=[Value.ref a]/\args=[WData.list (ns.map WData.int)]/\h.get? a=some { cls:=.type "list",data:=.seq vs.toArray }/\IntsAre vs ns/\ns.length≤n:=by
 have gK:WShape.hasAll [] args [.list .int]=true:=(pre_splitW Nk).1
 have hc:l.pre.holds [] { args:=args }=true:=(pre_splitW Nk).2
 obtain ⟨d,r,rfl,h1,h2⟩:=hasAllW_cons gK
 obtain rfl:=hasAllW_nil h2
 obtain ⟨xs,rfl,h3⟩:=hasW_list h1
 obtain ⟨ns,rfl⟩:=items_int h3
 have hlen:ns.length≤n:=by
  unfold OpenLaw.pre at hc
  have h4:(WTm.not (.lt (.lit (.int (n:Int))) (.len (.arg 0)))).holds [] { args:=[.list (ns.map .int)] }=true:=by
   have h4:=(holds_andW hc).1
   rw [hn]at h4
   exact h4
  have h5:=condW_of h4 (w_not (w_lt w_lit (w_len_list (w_arg rfl))))
  rw [List.length_map]at h5
  refine Nat.le_of_not_lt fun q=>?_
  have q':(n:Int)<((ns.length:Nat):Int):=by lia
  first
   |(rw [decide_eq_true q']at h5;exact absurd h5 (by decide))
   |(simp at h5;lia)
 cases jA with
 |cons w1 w2=>
  cases w2
  cases w1 with
  |list ho Eo=>exact ⟨_,_,ns,rfl,rfl,ho,JX ns _ Eo,hlen⟩
theorem To (l:OpenLaw) (args:List WData):l.row.toRowW.claim.post args (.bool true) args=true:=
 postW_of (r:=l.row.toRowW) (X:=(true==true))
  (show WShape.has [] (.bool true) .bool=true by first|rfl|decide|simp [WShape.has,WShape.arms,WShape.armsAll])
  (show (WTm.eq .res (.lit (.bool true))).value [] { args:=args,res:=some (.bool true),after:=args }=some (.bool (true==true))from w_eq_bool (w_res rfl) w_lit) rfl
theorem attach_call {l:OpenLaw} {n:Nat} {q:Program} {loose:List Str} {XP:(Str->Option Value)->Heap->Prop} {YP:World->Heap->Prop} {d:DefRec}
  (hn:l.most=some n) (gS:d.params.defaults=[])
  (call:∀(w:World) (s₀ s₁:Shared) (mg mb:Str->Option Value) (fa:Addr) (o:Obj) (pm cd doc:Value) (a:Addr) (vs:List Value) (ns:List Int),
   Ground q loose [] XP w s₀ mg mb s₁.heap->YP w s₁.heap →
   s₁.heap.get? fa=some o->o.data=.func (docDef d.name d.params d.body d.scope pm cd doc)->s₁.heap.CodeRec cd d.name->mg d.name=some (.ref fa) →
   s₁.heap.get? a=some { cls:=.type "list",data:=.seq vs.toArray }->IntsAre vs ns->ns.length≤n->s₁.gens=#[] →
   codeAny (model l.prog w) callerA (.call (.ref fa) ⟨[.ref a],[]⟩) (fun r s'=>r=.ok (.ret (.bool true))/\OldK s₁.heap s'.heap/\s'.os=s₁.os/\AllBare s'.gens) s₁) :
  WalkO q loose XP YP l.row.toRowW d [] (fun f vs=>PySem.call f vs):=by
 intro w s₀ s₁ mg mb G Y fa o pm cd doc dV kV ho hd Qt hD Q5 hg args vals as Nk wt yy jA uR
 obtain rfl:dV=.none:=Dflts.none hD gS
 obtain rfl:kV=.none:=Dflts.noKw hD
 obtain ⟨a,vs,ns,rfl,rfl,bw,hints,hlen⟩:=Tg hn Nk jA
 refine enter_call (codeAny_mono (call w s₀ s₁ mg mb fa o pm cd doc a vs ns G Y ho (fd_plain hd) Qt Q5 bw hints hlen hg) fun r s' hq=>?_)
 obtain ⟨rfl,h2,h3,h4⟩:=hq
 exact ⟨.inl ⟨.bool true,.bool true,[],rfl,fun _=>rfl,.bool true,To l _,fun _=>⟨List.Pairwise.nil,fun _ hm=>(nomatch hm)⟩⟩,h2,h3,h4⟩
section
variable {prog:Program}{w:World}{A:Around}{E:Value->Shared->Prop}{s:Shared}{K:Frag}
def j5 (h:Heap) (L d:Addr):List (Addr×Obj):=(List.range h.objs.size).filterMap fun a=>if a=L\/a=d then none else (h.get? a).map fun o=>(a,o)
end
end Att
namespace L2
open PySem PySem.Spec PyProof.Rows
theorem Ma:∀{vs:List Value} {ns:List Int},IntsAre vs ns->Vals (ns.map V.int) vs
 |_,_,.nil=>.nil
 |_,_,.cons n t h=>.cons ⟨t,rfl⟩ (Ma h)
def Z2 (H:Hp):Prop:=∀b,H b=none\/∃o xs,H b=some (.frz o (.lst xs))
theorem Vm {P:Program} {w:World} {K:PySem.W.Frag} {mg mb:Str->Option Value} {CX:CXT} {k:Nat} {fa a:Addr} {fd:FuncData} {x:Str} {sp:Sp} {s₁:Shared} {vs:List Value} {ns:List Int}
  (KX:K.In s₁.heap) (Nv:s₁.heap.Ns mainGlobals mg) (hb:s₁.heap.Ns builtinsNs mb) (wz:∀x:Str,x≠"__name__"->mb x=bootBuiltins x) (jW:s₁.heap.NoLimit) (hg:s₁.gens=#[])
  (ha:s₁.heap.get? a=some { cls:=.type "list",data:=.seq vs.toArray }) (hi:IntsAre vs ns) (hl:ns.length≤sizeLine) (hr:Room k callerA)
  (F:∀base:Heap,K.In base->base.Ns mainGlobals mg->FnOk P w K mg base CX k fa fd [x] sp) (dI:∀(s:Shared) (u:Value),BindsTo s fd ⟨[u],[]⟩ [(x,u)])
  (RO:∀H:Hp,Z2 H->SqL K H a (ns.map V.int)->sp [.ref a] H (fun v _=>v=.bl true) fun _ _ _=>False)
  (i9:∀H e s',CX [] H s₁ (fun _ _ _=>False) e s'->False) :
  codeAny (model P w) callerA (.call (.ref fa) ⟨[.ref a],[]⟩) (fun r s'=>r=.ok (.ret (.bool true))/\OldK s₁.heap s'.heap/\s'.os=s₁.os/\AllBare s'.gens) s₁:=by
 have rv:=Ma hi
 have qB:=hi.length
 have core:∀H:Hp,Z2 H->SqL K H a (ns.map V.int)->HOk P w H s₁.heap->(∀b,H b≠none->b=a)->(H a≠none->K.lookup a=none) →
   codeAny (model P w) callerA (.call (.ref fa) ⟨[.ref a],[]⟩) (fun r s'=>r=.ok (.ret (.bool true))/\OldK s₁.heap s'.heap/\s'.os=s₁.os/\AllBare s'.gens) s₁:=by
  intro H hO hS hok hA hK
  have Ro:∀{b:Addr} {o:Obj},s₁.heap.get? b=some o->H b=none->(Mv s₁.heap H).get? b=some o:=fun e n=>Ud e n
  have gV:∀{b:Addr} {o:Obj} {es:Array DictEntry} {ep:Nat},s₁.heap.get? b=some o->o.data=.dict es ep->H b=none:=fun {b o es ep} e d=>by
   cases q:H b with
   |none=>rfl
   |some u=>
    have e':b=a:=hA b (by rw [q];simp)
    subst e'
    rw [ha]at e;cases e
    have d':Data.seq vs.toArray _=Data.dict es ep:=d
    cases d'
  have hZ:∀{b:Addr} {m:Str->Option Value},s₁.heap.Ns b m->(Mv s₁.heap H).Ns b m:=fun {b m} ⟨o,es,ep,e,d,r⟩=>⟨o,es,ep,Ro e (gV e d),d,r⟩
  have qU:K.In (Mv s₁.heap H):=fun b o e=>Ro (KX b o e) (by
   cases q:H b with
   |none=>rfl
   |some u=>
    have e':b=a:=hA b (by rw [q];simp)
    subst e'
    rw [hK (by rw [q];simp)]at e;cases e)
  have hM:Mod K mg (Mv s₁.heap H):=⟨qU,hZ Nv,⟨mb,hZ hb,wz⟩,let ⟨mc,h1,h2⟩:=jW;⟨mc,hZ h1,h2⟩⟩
  have e0:Env0 P w K mg (Mv s₁.heap H) callerA [] s₁ H:=⟨rfl,hM,fun b o e=>Xy e,Nat.le_of_eq (Sl _ _),trivial,fun b hb=>absurd (show b∈([]:List Addr)from hb) (by simp),hok,.of_eq hg⟩
  refine codeAny_mono ((F _ qU (hZ Nv)).run callerA [] s₁ H ⟨[.ref a],[]⟩ [.ref a] [.ref a] _ _ hr e0 (dI s₁ (.ref a)) (.cons rfl .nil) (RO H hO hS)) fun r s' h=>?_
  cases r with
  |error e=>exact (i9 H e s' h).elim
  |ok fl=>
   cases fl with
   |next=>exact False.elim h
   |brk=>exact False.elim h
   |cont=>exact False.elim h
   |ret u=>
    obtain ⟨v,H',os,bare,un,oQ,r',q⟩:=h
    have q':v=.bl true:=q
    subst q'
    obtain rfl:u=Value.bool true:=r'
    refine ⟨rfl,OldK.of_keep fun b o e=>?_,os,bare⟩
    cases q:H b with
    |none=>exact un.keep b o e q (by intro z;exact absurd (show b∈([]:List Addr)from z) (by simp)) (by simp)
    |some u=>
     rcases hO b with z|⟨ob,xs,z⟩
     ·rw [q]at z;cases z
     ·have z2:=un.frzs b ob _ z
      obtain ⟨e1,_⟩:=hok b _ z
      obtain ⟨e2,_⟩:=oQ b _ z2
      rw [e]at e1;cases e1
      exact e2
 cases hk:K.lookup a with
 |some o=>
  have e:=KX a o hk
  rw [ha]at e
  cases e
  refine core (fun _=>none) (fun _=>.inl rfl) (.inr ⟨_,vs.toArray,_,hk,rfl,rfl,rfl,by rw [List.size_toArray,qB];exact hl,by simpa using rv⟩) (fun b u z=>by have z':(none:Option HO)=some u:=z;cases z') (fun b z=>absurd rfl z) fun z=>absurd rfl z
 |none=>
  refine core (fun b=>if b=a then some (.frz { cls:=.type "list",data:=.seq vs.toArray } (.lst (ns.map V.int)))else none) (fun b=>?_) (.inl (.inr ⟨{ cls:=.type "list",data:=.seq vs.toArray },if_pos rfl⟩)) (fun b u z=>?_) (fun b z=>?_) fun _=>hk
  ·by_cases hb:b=a
   ·exact .inr ⟨_,_,if_pos hb⟩
   ·exact .inl (if_neg hb)
  ·by_cases hb:b=a
   ·have z':=(if_pos hb).symm.trans z
    cases z'
    subst hb
    exact ⟨ha,by rw [List.length_map];exact hl,vs,_,rv,ha⟩
   ·have z':=(if_neg hb).symm.trans z
    cases z'
  ·by_cases hb:b=a
   ·exact hb
   ·exact absurd (if_neg hb) z
abbrev KOf {K:PySem.W.Frag} {h:Heap} (_:K.In h):PySem.W.Frag:=K
theorem walk_of {l:PySem.W.OpenLaw} {n k:Nat} {q:Program} {loose:List Str} {XP:(Str->Option Value)->Heap->Prop} {YP:World->Heap->Prop} {d:DefRec} {K:Params->PySem.W.Frag} {CX:World->CXT} {sp:World->Sp} {x:Str}
  (hn:l.most=some n) (bZ:n≤sizeLine) (gS:d.params.defaults=[]) (hr:Room k callerA)
  (hY:∀(w:World) (h:Heap),YP w h->(K w.params).In h)
  (F:∀(w:World) (mg:Str->Option Value) (fa:Addr) (h:Heap),(K w.params).In h->h.Ns mainGlobals mg->mg d.name=some (.ref fa) →
   ∃fd:FuncData,(∀(s:Shared) (u:Value),BindsTo s fd ⟨[u],[]⟩ [(x,u)]) ∧
    ∀base:Heap,(K w.params).In base->base.Ns mainGlobals mg->FnOk l.prog w (K w.params) mg base (CX w) k fa fd [x] (sp w))
  (RO:∀(w:World) (H:Hp) (a:Addr) (ns:List Int),ns.length≤n->Z2 H->SqL (K w.params) H a (ns.map V.int)->sp w [.ref a] H (fun v _=>v=.bl true) fun _ _ _=>False)
  (i9:∀(w:World) (H:Hp) (s:Shared) (e:Value) (s':Shared),CX w [] H s (fun _ _ _=>False) e s'->False) :
  PySem.W.WalkO q loose XP YP l.row.toRowW d [] (fun f vs=>PySem.call f vs):=by
 refine Att.attach_call hn gS fun w s₀ s₁ mg mb fa o pm cd doc a vs ns G Y ho hd Qt Q5 bw hints hlen hg=>?_
 have KX:=hY w _ Y
 obtain ⟨fd,hb,hF⟩:=F w mg fa _ KX G.T.g Q5
 exact Vm KX G.T.g G.T.b G.T.builtins G.T.nolimit hg bw hints (Nat.le_trans hlen bZ) hr hF hb (fun H hO hS=>RO w H a ns hlen hO hS) fun H e s'=>i9 w H s₁ e s'
def AI (s:Stmt):Arguments:=match s with
 |.FunctionDef _ a _ _ _ _ _ _ _ _=>a
 |_=>{ posonlyargs:=[],args:=[],vararg:=none,kwonlyargs:=[],kw_defaults:=[],kwarg:=none,defaults:=[] }
def AH (s:Stmt):List Stmt:=match s with
 |.FunctionDef _ _ b _ _ _ _ _ _ _=>b
 |_=>[]
def AB (s:Stmt):Scope:=match s with
 |.FunctionDef _ _ _ _ _ _ sc _ _ _=>sc
 |_=>{ kind:=.function,names:=[],isGenerator:=false,isCoroutine:=false }
abbrev CX0:CXT:=fun _ _ _ _ _ _=>False
abbrev E0:XK:=fun _ _ _=>False
theorem ZL {X:Cx}:Qz CX0 X E0:=fun _ _ _ _ _ _ _ h=>h.elim
structure Fun (K:PySem.W.Frag) (x qual:Str) (st:Stmt) (f:Addr) (fd:FuncData):Prop where
 ex:∃(oc:Value) (od:Option Addr) (kV doc pm:Value) (an:Option Addr) (BO ct:Value) (Ws:Array (Option Value)),
  fd=PySem.W.fnOf x qual (AI st) (AH st) (AB st) .none kV doc pm an BO ct/\K.lookup f=some ⟨oc,od,.func fd,Ws⟩/\PySem.W.codeIn K BO qual=true
 kp:PySem.W.keepIn K (.ref f)=true
section
variable {P:Program}{w:World}{K:PySem.W.Frag}{mg:Str->Option Value}{base:Heap}
theorem Fun.ok {x qual:Str} {st:Stmt} {f:Addr} {fd:FuncData} {N ps:List Str} {k:Nat} {sp:Sp} (F:Fun K x qual st f fd) (S:FnScope N ps (AB st)) (len:∀vs H Q E,sp vs H Q E->vs.length=ps.length)
  (VH:∀(BO:Value) (A:Around) (outer:List Env) (s:Shared) (H:Hp) (vs:List V) (Q:VK) (E:XK),Room k (A.deeper (envOfC qual (AB st) s.heap.objs.size f BO))->sp vs H Q E →
   ∃t,PSs (El CX0 P w K mg base N qual (AB st) f BO A outer s H E).nox (AH st) t/\t { nx:=fun _ H'=>Q .non H',rt:=Q } (start N vs) H):FnOk P w K mg base CX0 (k+1) f fd ps sp:=by
 obtain ⟨oc,od,kV,doc,pm,an,BO,ct,Ws,rfl,lk,Qt⟩:=F.ex
 refine Vt lk Qt S len fun A outer s H vs Q E hr RO=>?_
 obtain ⟨t,h,q⟩:=VH BO A outer s H vs Q E hr RO
 exact ⟨t,h.nox,q⟩
theorem Fun.binds {x qual:Str} {st:Stmt} {f:Addr} {fd:FuncData} {ps:List Str} (F:Fun K x qual st f fd)
  (h:∀(kV doc pm:Value) (an:Option Addr) (BO ct:Value) (us:List Value),us.length=ps.length->bindArgs (PySem.W.fnOf x qual (AI st) (AH st) (AB st) .none kV doc pm an BO ct) ⟨us,[]⟩=pure (ps.zip us)):Binds K fd ps []:=by
 obtain ⟨oc,od,kV,doc,pm,an,BO,ct,Ws,rfl,lk,Qt⟩:=F.ex
 exact .all (h kV doc pm an BO ct)
theorem Aw {x qual:Str} {st:Stmt} {f:Addr} {oc:Value} {od an:Option Addr} {Ws:Array (Option Value)} {kV doc pm BO ct:Value} (l:K.lookup f=some ⟨oc,od,.func (PySem.W.fnOf x qual (AI st) (AH st) (AB st) .none kV doc pm an BO ct),Ws⟩)
  (c:PySem.W.codeIn K BO qual=true) (k:PySem.W.keepIn K (.ref f)=true):Fun K x qual st f (PySem.W.fnOf x qual (AI st) (AH st) (AB st) .none kV doc pm an BO ct):=⟨⟨oc,od,kV,doc,pm,an,BO,ct,Ws,rfl,l,c⟩,k⟩
end
theorem Ik {n:Nat} (h:n≤1000):n<sizeLine:=Nat.lt_of_le_of_lt h (by decide)
def Same (H H':Hp):Prop:=∀b o,H b=some o->H' b=some o
theorem Same.refl (H:Hp):Same H H:=fun _ _ h=>h
theorem Same.trans {H H1 H2:Hp} (a:Same H H1) (b:Same H1 H2):Same H H2:=fun c o h=>b c o (a c o h)
theorem Same.free {H H':Hp} (e:Same H H') {l:Addr} (h:H' l=Option.none):H l=Option.none:=by
 cases q:H l with
 |none=>rfl
 |some o=>
  rw [e l o q]at h
  cases h
theorem Same.seq {K:PySem.W.Frag} {H H':Hp} {a:Addr} {xs:List V} (e:Same H H') (h:SqL K H a xs):SqL K H' a xs:=by
 rcases h with (h|⟨o,h⟩)|h
 ·exact .inl (.inl (e _ _ h))
 ·exact .inl (.inr ⟨o,e _ _ h⟩)
 ·exact .inr h
end L2
namespace TF
open PySem PySem.Spec L2
open PyProof.Rows hiding St RelV
inductive Dat where
 |non|bl (b:Bool)|int (i:Int)|str (x:Str)|fn (a:Addr)|scr (ns:List Int)|tup (l:List Dat)|lst (l:List Dat)
mutual
def Rep (K:PySem.W.Frag) (H:Hp):Dat->V->Prop
 |.non,v=>v=.non
 |.bl b,v=>v=.bl b
 |.int i,v=>v=.int i
 |.str x,v=>v=.str x
 |.fn a,v=>v=.ref a
 |.scr ns,v=>∃a,v=.ref a/\SqL K H a (ns.map V.int)
 |.tup l,v=>∃a vs,v=.ref a/\SqT K H a vs/\RepL K H l vs
 |.lst l,v=>∃a vs,v=.ref a/\H a=some (.lst vs)/\RepL K H l vs
def RepL (K:PySem.W.Frag) (H:Hp):List Dat->List V->Prop
 |[],vs=>vs=[]
 |d::ds,vs=>∃v r,vs=v::r/\Rep K H d v/\RepL K H ds r
end
theorem Af {K:PySem.W.Frag} {H H':Hp} {a:Addr} {xs:List V} (e:Same H H') (h:SqT K H a xs):SqT K H' a xs:=by
 rcases h with (h|⟨o,h⟩)|h
 ·exact .inl (.inl (e _ _ h))
 ·exact .inl (.inr ⟨o,e _ _ h⟩)
 ·exact .inr h
mutual
theorem Rep.same {K:PySem.W.Frag} {H H':Hp} (e:Same H H'):∀{d:Dat} {v:V},Rep K H d v->Rep K H' d v
 |.non,_,h=>by simpa [Rep]using h
 |.bl _,_,h=>by simpa [Rep]using h
 |.int _,_,h=>by simpa [Rep]using h
 |.str _,_,h=>by simpa [Rep]using h
 |.fn _,_,h=>by simpa [Rep]using h
 |.scr _,_,h=>by
  obtain ⟨a,h1,h2⟩:=(by simpa [Rep]using h:∃a,_=V.ref a/\SqL K H a _)
  rw [Rep];exact ⟨a,h1,e.seq h2⟩
 |.tup _,_,h=>by
  rw [Rep]at h ⊢
  obtain ⟨a,vs,h1,h2,h3⟩:=h
  exact ⟨a,vs,h1,Af e h2,RepL.same e h3⟩
 |.lst _,_,h=>by
  rw [Rep]at h ⊢
  obtain ⟨a,vs,h1,h2,h3⟩:=h
  exact ⟨a,vs,h1,e _ _ h2,RepL.same e h3⟩
theorem RepL.same {K:PySem.W.Frag} {H H':Hp} (e:Same H H'):∀{ds:List Dat} {vs:List V},RepL K H ds vs->RepL K H' ds vs
 |[],_,h=>by rw [RepL]at h ⊢;exact h
 |_::_,_,h=>by
  rw [RepL]at h ⊢
  obtain ⟨v,r,h1,h2,h3⟩:=h
  exact ⟨v,r,h1,Rep.same e h2,RepL.same e h3⟩
end
theorem RepL.length {K:PySem.W.Frag} {H:Hp}:∀{ds:List Dat} {vs:List V},RepL K H ds vs->vs.length=ds.length
 |[],_,h=>by rw [RepL]at h;subst h;rfl
 |_::_,_,h=>by
  rw [RepL]at h
  obtain ⟨v,r,rfl,_,h3⟩:=h
  rw [List.length_cons,List.length_cons,RepL.length h3]
theorem RepL.get {K:PySem.W.Frag} {H:Hp}:∀{ds:List Dat} {vs:List V} {i:Nat} {d:Dat},RepL K H ds vs->ds[i]?=some d->∃v,vs[i]?=some v/\Rep K H d v
 |[],_,_,_,_,e=>by simp at e
 |_::_,_,0,_,h,e=>by
  rw [RepL]at h
  obtain ⟨v,r,rfl,h2,_⟩:=h
  simp at e;subst e;exact ⟨v,rfl,h2⟩
 |_::_,_,i+1,d,h,e=>by
  rw [RepL]at h
  obtain ⟨v,r,rfl,_,h3⟩:=h
  obtain ⟨u,h4,h5⟩:=RepL.get (i:=i) (d:=d) h3 (by simpa using e)
  exact ⟨u,by simpa using h4,h5⟩
theorem RepL.nil {K:PySem.W.Frag} {H:Hp}:RepL K H [] []:=by rw [RepL]
theorem RepL.cons {K:PySem.W.Frag} {H:Hp} {d:Dat} {ds:List Dat} {v:V} {vs:List V} (h:Rep K H d v) (t:RepL K H ds vs):RepL K H (d::ds) (v::vs):=by
 rw [RepL];exact ⟨v,vs,rfl,h,t⟩
theorem RepL.append {K:PySem.W.Frag} {H:Hp}:∀{ds es:List Dat} {vs us:List V},RepL K H ds vs->RepL K H es us->RepL K H (ds++es) (vs++us)
 |[],_,_,_,h,t=>by rw [RepL]at h;subst h;exact t
 |_::_,_,_,_,h,t=>by
  rw [RepL]at h
  obtain ⟨v,r,rfl,h2,h3⟩:=h
  exact RepL.cons h2 (RepL.append h3 t)
theorem RepL.drop {K:PySem.W.Frag} {H:Hp}:∀(n:Nat) {ds:List Dat} {vs:List V},RepL K H ds vs->RepL K H (ds.drop n) (vs.drop n)
 |0,_,_,h=>h
 |_+1,[],_,h=>by rw [RepL]at h;subst h;simpa using RepL.nil
 |n+1,_::_,_,h=>by
  rw [RepL]at h
  obtain ⟨v,r,rfl,_,h3⟩:=h
  exact RepL.drop n h3
theorem RepL.take {K:PySem.W.Frag} {H:Hp}:∀(n:Nat) {ds:List Dat} {vs:List V},RepL K H ds vs->RepL K H (ds.take n) (vs.take n)
 |0,_,_,_=>by simpa using RepL.nil
 |_+1,[],_,h=>by rw [RepL]at h;subst h;simpa using RepL.nil
 |n+1,_::_,_,h=>by
  rw [RepL]at h
  obtain ⟨v,r,rfl,h2,h3⟩:=h
  exact RepL.cons h2 (RepL.take n h3)
theorem RepL.ints {K:PySem.W.Frag} {H:Hp}:∀{ns:List Int} {vs:List V},RepL K H (ns.map Dat.int) vs->vs=ns.map V.int
 |[],_,h=>by rw [List.map_nil,RepL]at h;subst h;rfl
 |_::_,_,h=>by
  rw [List.map_cons,RepL]at h
  obtain ⟨v,r,rfl,h2,h3⟩:=h
  rw [Rep]at h2
  subst h2
  rw [RepL.ints h3];rfl
inductive OD where
 |lst (l:List Dat)
 |dct (kvs:List (Dat×Dat))
abbrev Gs:=Addr->Option OD
def g0:Gs:=fun _=>none
def put (G:Gs) (a:Addr) (o:OD):Gs:=fun b=>if b=a then some o else G b
def rel (G:Gs) (a:Addr):Gs:=fun b=>if b=a then none else G b
theorem AL {G:Gs} {a:Addr} {o:OD}:put G a o a=some o:=by simp [put]
theorem Cj {G:Gs} {a b:Addr} {o:OD} (h:b≠a):put G a o b=G b:=by simp [put,h]
theorem CF {G:Gs} {a:Addr}:rel G a a=none:=by simp [rel]
theorem D6 {G:Gs} {a b:Addr} (h:b≠a):rel G a b=G b:=by simp [rel,h]
theorem DI {G:Gs} {a:Addr} {o:OD} (h:G a=none):rel (put G a o) a=G:=by
 funext b;by_cases e:b=a
 ·subst e;rw [CF,h]
 ·rw [D6 e,Cj e]
theorem BQ {G:Gs} {a:Addr} {o u:OD}:put (put G a o) a u=put G a u:=by
 funext b;by_cases e:b=a
 ·subst e;rw [AL,AL]
 ·rw [Cj e,Cj e,Cj e]
theorem LP {G:Gs} {a:Addr} {o:OD} (h:G a=some o):put G a o=G:=by
 funext b;by_cases e:b=a
 ·subst e;rw [AL,h]
 ·rw [Cj e]
def hid (H:Hp) (G:Gs):Hp:=fun b=>if (G b).isSome then none else H b
theorem Mu {H:Hp} {G:Gs} {b:Addr} {o:HO} (h:hid H G b=some o):G b=none/\H b=some o:=by
 unfold hid at h
 cases e:G b with
 |none=>rw [e]at h;exact ⟨rfl,by simpa using h⟩
 |some u=>rw [e]at h;simp at h
theorem EX {H:Hp} {G:Gs} {b:Addr} {o:HO} (h1:G b=none) (h2:H b=some o):hid H G b=some o:=by
 unfold hid;rw [h1];simpa using h2
theorem AJ {H:Hp} {G:Gs}:Same (hid H G) H:=fun _ _ h=>(Mu h).2
structure Ext (H:Hp) (G:Gs) (H':Hp) (G':Gs):Prop where
 keep:∀b o,H b=some o->G b=none->H' b=some o
 new:∀b,G' b≠none->G b≠none\/H b=none
theorem Ext.refl {H:Hp} {G:Gs}:Ext H G H G:=⟨fun _ _ h _=>h,fun _ h=>.inl h⟩
theorem Ext.hid {H H':Hp} {G G':Gs} (e:Ext H G H' G'):Same (hid H G) (hid H' G'):=fun b o h=>by
 obtain ⟨h1,h2⟩:=Mu h
 refine EX ?_ (e.keep b o h2 h1)
 cases q:G' b with
 |none=>rfl
 |some u=>
  rcases e.new b (by rw [q];exact nofun)with z|z
  ·exact absurd h1 z
  ·rw [h2]at z;cases z
theorem Ext.trans {H H1 H2:Hp} {G G1 G2:Gs} (a:Ext H G H1 G1) (b:Ext H1 G1 H2 G2):Ext H G H2 G2:=by
 refine ⟨fun c o h h'=>?_,fun c h=>?_⟩
 ·have h1:=a.keep c o h h'
  refine b.keep c o h1 ?_
  cases q:G1 c with
  |none=>rfl
  |some u=>
   rcases a.new c (by rw [q];exact nofun)with z|z
   ·exact absurd h' z
   ·rw [h]at z;cases z
 ·rcases b.new c h with z|z
  ·exact a.new c z
  ·cases q:G c with
   |some u=>exact .inl nofun
   |none=>
    right
    cases r:H c with
    |none=>rfl
    |some o=>rw [a.keep c o r q]at z;cases z
theorem Ext.alloc {H:Hp} {G:Gs} {p:Addr} {o:HO} (h:H p=none):Ext H G (upd H p o) G:=
 ⟨fun b u e _=>by rw [AN (AK e h)];exact e,fun _ h=>.inl h⟩
def CH:Nat->Dat->Bool
 |_,.int _=>true
 |n+1,.tup l=>l.all (CH n)
 |_,_=>false
mutual
def Dm:Dat->Int
 |.int i=>hashInt i
 |.tup l=>reduceHash (Builtin.Tuple.tupleHashOf (DX l))
 |_=>0
def DX:List Dat->List Int
 |[]=>[]
 |d::r=>Dm d::DX r
end
def bh (x:Dat×Addr×Value):DictEntry:=⟨Dm x.1,.ref x.2.1,x.2.2⟩
def KI (a:Addr) (xs:List (Dat×Addr×Value)) (h:Heap):Prop:=
 (a==sysModules)=false/\xs.length≤sizeLine/\(xs.map (·.1)).Nodup/\∃o es ep,h.get? a=some o/\o.ExactDict/\o.data=.dict es ep/\es.toList=xs.map bh
def Gv (a:Addr) (xs:List (Dat×Addr×Value)):HO:=.ext (KI a xs)
def DRep (K:PySem.W.Frag) (H:Hp):List (Dat×Dat)->List (Dat×Addr×Value)->Prop
 |[],xs=>xs=[]
 |(k,d)::r,xs=>∃a u L5,xs=(k,a,u)::L5/\CH 6 k=true/\Rep K H k (.ref a)/\(∃v,RelV v u/\Rep K H d v)/\DRep K H r L5
theorem DRep.same {K:PySem.W.Frag} {H H':Hp} (e:Same H H'):∀{kvs:List (Dat×Dat)} {xs:List (Dat×Addr×Value)},DRep K H kvs xs->DRep K H' kvs xs
 |[],_,h=>h
 |_::_,_,⟨a,u,L5,h1,h2,h3,⟨v,h4,h5⟩,h6⟩=>⟨a,u,L5,h1,h2,h3.same e,⟨v,h4,h5.same e⟩,DRep.same e h6⟩
section
variable (K:PySem.W.Frag)
def OwnOk (H:Hp) (G:Gs) (a:Addr):OD->Prop
 |.lst l=>∃vs,H a=some (.lst vs)/\RepL K (hid H G) l vs
 |.dct kvs=>∃xs,H a=some (Gv a xs)/\DRep K (hid H G) kvs xs
def GOk (H:Hp) (G:Gs):Prop:=∀a o,G a=some o->OwnOk K H G a o
end
section
variable {K:PySem.W.Frag}{H H':Hp}{G G':Gs}{a p:Addr}
theorem OwnOk.there {o:OD} (h:OwnOk K H G a o):∃u,H a=some u:=by
 cases o with
 |lst l=>obtain ⟨vs,h,_⟩:=h;exact ⟨_,h⟩
 |dct kvs=>obtain ⟨xs,h,_⟩:=h;exact ⟨_,h⟩
theorem OwnOk.ext {o:OD} (h:OwnOk K H G a o) (e:Same (hid H G) (hid H' G')) (q:H' a=H a):OwnOk K H' G' a o:=by
 cases o with
 |lst l=>
  obtain ⟨vs,h1,h2⟩:=h
  exact ⟨vs,q.trans h1,h2.same e⟩
 |dct kvs=>
  obtain ⟨xs,h1,h2⟩:=h
  exact ⟨xs,q.trans h1,h2.same e⟩
theorem GOk.free (h:GOk K H G) (hp:H p=none):G p=none:=by
 cases q:G p with
 |none=>rfl
 |some o=>obtain ⟨u,e⟩:=(h p o q).there;rw [hp]at e;cases e
theorem GOk.alloc {o:HO} (h:GOk K H G) (hp:H p=none):GOk K (upd H p o) G:=fun b u q=>
 (h b u q).ext (Ext.alloc hp).hid (AN (by rintro rfl;rw [h.free hp]at q;cases q))
theorem eQ:GOk K H g0:=fun _ _ h=>nomatch h
theorem bI:hid H g0=H:=by funext b;simp [hid,g0]
end
abbrev Rho:=List (Option Dat)
structure Stt (X:Cx) (H:Hp) (σ:St) (ρ:Rho) (G:Gs):Prop where
 env:∀(i:Nat) d,ρ[i]?=some (some d)->∃v,σ[i]?=some (some v)/\Rep X.K (hid H G) d v
 len:ρ.length=σ.length
 own:GOk X.K H G
theorem Stt.ext {X:Cx} {H H':Hp} {σ:St} {ρ:Rho} {G G':Gs} (S:Stt X H σ ρ G) (e:Ext H G H' G') (o:GOk X.K H' G'):Stt X H' σ ρ G':=
 ⟨fun i d h=>let ⟨v,h1,h2⟩:=S.env i d h;⟨v,h1,h2.same e.hid⟩,S.len,o⟩
theorem Stt.set {X:Cx} {H:Hp} {σ:St} {ρ:Rho} {G:Gs} {i:Nat} {d:Dat} {v:V} (S:Stt X H σ ρ G) (r:Rep X.K (hid H G) d v):Stt X H (σ.set i (some v)) (ρ.set i (some d)) G:=by
 refine ⟨fun j e h=>?_,by rw [List.length_set,List.length_set,S.len],S.own⟩
 by_cases hj:i=j
 ·subst hj
  have hl:i<ρ.length:=by
   have:=(List.getElem?_eq_some_iff.mp h).1
   rwa [List.length_set]at this
  rw [List.getElem?_set_self hl]at h
  cases h
  exact ⟨v,by rw [List.getElem?_set_self (by rw [<-S.len];exact hl)],r⟩
 ·rw [List.getElem?_set_ne hj]at h
  rw [List.getElem?_set_ne hj]
  exact S.env j e h
section
variable (X:Cx)
def Po (H:Hp) (G:Gs) (Q:Dat->Gs->Prop):VK:=fun v H'=>∃d G',Ext H G H' G'/\GOk X.K H' G'/\Rep X.K (hid H' G') d v/\Q d G'
def PoT (H:Hp) (G:Gs) (Q:Bool->Gs->Prop):Bool->Hp->Prop:=fun b H'=>∃G',Ext H G H' G'/\GOk X.K H' G'/\Q b G'
def PoA (H:Hp) (G:Gs) (Q:List Dat->Gs->Prop):List V->Hp->Prop:=fun vs H'=>∃ds G',Ext H G H' G'/\GOk X.K H' G'/\RepL X.K (hid H' G') ds vs/\Q ds G'
def WE (ρ:Rho) (G:Gs) (e:Expr) (Q:Dat->Gs->Prop):Prop:=
 ∀(pins:List (Addr×Obj)) (s:Shared) (σ:St) (H:Hp),Inv X pins σ H s->Stt X H σ ρ G->wpAny (model X.prog X.w) X.A (eval e X.env) (EP X pins σ (Po X H G Q)) X.xe s
def WT (ρ:Rho) (G:Gs) (e:Expr) (Q:Bool->Gs->Prop):Prop:=
 ∀(pins:List (Addr×Obj)) (s:Shared) (σ:St) (H:Hp),Inv X pins σ H s->Stt X H σ ρ G->wpAny (model X.prog X.w) X.A (isTrue e X.env (eval e X.env)) (TP X pins σ (PoT X H G Q)) X.xe s
def WA (ρ:Rho) (G:Gs) (es:List Expr) (Q:List Dat->Gs->Prop):Prop:=
 ∀(pos:Pos) (pins:List (Addr×Obj)) (s:Shared) (σ:St) (H:Hp),Inv X pins σ H s->Stt X H σ ρ G->wpAny (model X.prog X.w) X.A (spliced (backTo pos (starEach es X.env))) (AP X pins σ (PoA X H G Q)) X.xe s
def PX (ρ:Rho) (G:Gs) (e:Expr) (d:Dat):Prop:=WE X ρ G e fun d' G'=>d'=d/\G'=G
def PXT (ρ:Rho) (G:Gs) (e:Expr) (b:Bool):Prop:=WT X ρ G e fun b' G'=>b'=b/\G'=G
def PXs (ρ:Rho) (G:Gs) (es:List Expr) (ds:List Dat):Prop:=WA X ρ G es fun d' G'=>d'=ds/\G'=G
end
theorem EP.mono {X:Cx} {pins:List (Addr×Obj)} {σ:St} {Q Q':VK} {u:Value} {s:Shared} (h:EP X pins σ Q u s) (k:∀v H,Q v H->Q' v H):EP X pins σ Q' u s:=
 let ⟨v,H,I,r,q⟩:=h;⟨v,H,I,r,k v H q⟩
theorem TP.mono {X:Cx} {pins:List (Addr×Obj)} {σ:St} {Q Q':Bool->Hp->Prop} {u:Bool} {s:Shared} (h:TP X pins σ Q u s) (k:∀v H,Q v H->Q' v H):TP X pins σ Q' u s:=
 let ⟨H,I,q⟩:=h;⟨H,I,k _ H q⟩
theorem AP.mono {X:Cx} {pins:List (Addr×Obj)} {σ:St} {Q Q':List V->Hp->Prop} {u:List Value} {s:Shared} (h:AP X pins σ Q u s) (k:∀v H,Q v H->Q' v H):AP X pins σ Q' u s:=
 let ⟨v,H,I,r,q⟩:=h;⟨v,H,I,r,k v H q⟩
theorem Po.mono {X:Cx} {H:Hp} {G:Gs} {Q Q':Dat->Gs->Prop} {v:V} {H':Hp} (h:Po X H G Q v H') (k:∀d G',Q d G'->Q' d G'):Po X H G Q' v H':=
 let ⟨d,G',e,o,r,q⟩:=h;⟨d,G',e,o,r,k d G' q⟩
theorem Po.trans {X:Cx} {H H1:Hp} {G G1:Gs} {Q:Dat->Gs->Prop} {v:V} {H':Hp} (e:Ext H G H1 G1) (h:Po X H1 G1 Q v H'):Po X H G Q v H':=
 let ⟨d,G',e',o,r,q⟩:=h;⟨d,G',e.trans e',o,r,q⟩
theorem PoT.trans {X:Cx} {H H1:Hp} {G G1:Gs} {Q:Bool->Gs->Prop} {v:Bool} {H':Hp} (e:Ext H G H1 G1) (h:PoT X H1 G1 Q v H'):PoT X H G Q v H':=
 let ⟨G',e',o,q⟩:=h;⟨G',e.trans e',o,q⟩
section
variable {X:Cx}{ρ:Rho}{G:Gs}{e a b:Expr}{es:List Expr}{d d' d1 d2:Dat}{ds:List Dat}{pos:Pos}
theorem Ba {t:TE} {Q:Dat->Gs->Prop} (h:PE X e t) (hq:∀σ H,Stt X H σ ρ G->t σ H (Po X H G Q)):WE X ρ G e Q:=fun pins s σ H I S=>h pins s σ H _ I (hq σ H S)
def tW (X:Cx) (e:Expr):TE:=fun σ H Q'=>∃ρ G R,WE X ρ G e R/\Stt X H σ ρ G/\∀v H',Po X H G R v H'->Q' v H'
theorem Ak:PE X e (tW X e):=fun pins s σ H Q I ⟨_,_,_,h,S,k⟩=>thn (h pins s σ H I S) fun _ _ q=>EP.mono q k
theorem Yp {t:TT} {Q:Bool->Gs->Prop} (h:PT X e t) (hq:∀σ H,Stt X H σ ρ G->t σ H (PoT X H G Q)):WT X ρ G e Q:=fun pins s σ H I S=>h pins s σ H _ I (hq σ H S)
theorem SF {t:TA} {Q:List Dat->Gs->Prop} (h:PA X es t) (hq:∀σ H,Stt X H σ ρ G->t σ H (PoA X H G Q)):WA X ρ G es Q:=fun pos pins s σ H I S=>h pos pins s σ H _ I (hq σ H S)
def tWA (X:Cx) (es:List Expr):TA:=fun σ H Q'=>∃ρ G R,WA X ρ G es R/\Stt X H σ ρ G/\∀v H',PoA X H G R v H'->Q' v H'
theorem Kd:PA X es (tWA X es):=fun pos pins s σ H Q I ⟨_,_,_,h,S,k⟩=>thn (h pos pins s σ H I S) fun _ _ q=>AP.mono q k
theorem WE.mono {Q Q':Dat->Gs->Prop} (h:WE X ρ G e Q) (k:∀d G',Q d G'->Q' d G'):WE X ρ G e Q':=fun pins s σ H I S=>thn (h pins s σ H I S) fun _ _ q=>EP.mono q fun _ _ z=>Po.mono z k
theorem PX.we {Q:Dat->Gs->Prop} (h:PX X ρ G e d) (q:Q d G):WE X ρ G e Q:=WE.mono h fun _ _ ⟨h1,h2⟩=>by subst h1;subst h2;exact q
theorem PX.cast (h:PX X ρ G e d) (q:d=d'):PX X ρ G e d':=q▸h
theorem po1 {H H':Hp} {v:V} (e:Ext H G H' G) (o:GOk X.K H' G) (r:Rep X.K (hid H' G) d v):Po X H G (fun d' G'=>d'=d/\G'=G) v H':=⟨d,G,e,o,r,rfl,rfl⟩
theorem BL {H:Hp} {v:V} (o:GOk X.K H G) (r:Rep X.K (hid H G) d v):Po X H G (fun d' G'=>d'=d/\G'=G) v H:=po1 Ext.refl o r
theorem AA (i:Nat) {x:Str} (hi:ρ[i]?=some (some d)) (hN:X.N[i]?=some x:=by rfl) (hv:Vis X.env.scope x:=by first|exact Or.inl rfl|exact Or.inr (Or.inl rfl)|exact Or.inr (Or.inr rfl)) (hd:(x==("__debug__":Str))=false:=by decide)
  (Qt:(x==("__classdict__":Str))=false:=by decide):PX X ρ G (.Name x pos) d:=
 Ba (bT hN hv hd Qt) fun σ H S=>let ⟨v,h1,h2⟩:=S.env i d hi;⟨v,h1,BL S.own h2⟩
theorem AE {i:Int} {j}:PX X ρ G (.Constant (.int i) j pos) (.int i):=Ba Zi fun σ H S=>BL S.own rfl
theorem ZO {i:Bool} {j}:PX X ρ G (.Constant (.bool i) j pos) (.bl i):=Ba dU fun σ H S=>BL S.own rfl
theorem bV {j}:PX X ρ G (.Constant .none j pos) .non:=Ba Z8 fun σ H S=>BL S.own rfl
theorem AU {x:Str} {j}:PX X ρ G (.Constant (.str x) j pos) (.str x):=Ba cM fun σ H S=>BL S.own rfl
theorem JI {op:Operator} {r:R2} (ho:OpR X (binaryOp op) r) (ha:PX X ρ G a d1) (hb:PX X ρ G b d2)
  (hr:∀(H:Hp) (x y:V) (Q:VK),GOk X.K H G->Rep X.K (hid H G) d1 x->Rep X.K (hid H G) d2 y->(∀v H',Po X H G (fun d' G'=>d'=d/\G'=G) v H'->Q v H')->r x y H Q):PX X ρ G (.BinOp a op b pos) d:=
 Ba (Y6 ho Ak Ak) fun σ H S=>⟨ρ,G,_,ha,S,fun x H1 ⟨_,_,e1,o1,r1,q1,Bp⟩=>by
  subst q1;subst Bp
  refine ⟨ρ,_,_,hb,S.ext e1 o1,fun y H2 ⟨_,_,e2,o2,r2,q2,Ek⟩=>?_⟩
  subst q2;subst Ek
  exact hr H2 x y _ o2 (r1.same e2.hid) r2 fun v H' z=>Po.trans (e1.trans e2) z⟩
end
mutual
def eqD:Dat->Dat->Bool
 |.non,.non=>true
 |.bl a,.bl b=>a==b
 |.bl a,.int b=>(if a then 1 else 0)==b
 |.int a,.bl b=>a==(if b then 1 else 0)
 |.int a,.int b=>a==b
 |.str a,.str b=>a==b
 |.tup l,.tup m=>eqL l m
 |.lst l,.lst m=>eqL l m
 |_,_=>false
def eqL:List Dat->List Dat->Bool
 |[],[]=>true
 |x::xs,y::ys=>eqD x y&&eqL xs ys
 |_,_=>false
end
def Ac:Dat->Bool
 |.non=>true|.bl _=>true|.int _=>true|.str _=>true|_=>false
def AG:Nat->Dat->Bool
 |0,d=>Ac d
 |n+1,.tup l=>l.all (AG n)
 |n+1,.lst l=>l.all (AG n)
 |_+1,d=>Ac d
theorem FE {d:Dat} (h:Ac d=true):∀n,AG n d=true
 |0=>h
 |n+1=>by cases d<;>first|exact h|(simp [Ac]at h)
theorem JG {d:Dat}:∀{n m:Nat},n≤m->AG n d=true->AG m d=true:=by
 intro n
 induction n generalizing d with
 |zero=>intro m _ h;exact FE h m
 |succ n ih=>
  intro m hm h
  obtain ⟨k,rfl⟩:∃k,m=k+1:=⟨m-1,by lia⟩
  cases d<;>first|exact h|skip
  all_goals
   simp only [AG,List.all_eq_true]at h ⊢
   exact fun x hx=>ih (by lia) (h x hx)
theorem OP:∀(n:Nat) (d:Dat),AG n d=true->eqD d d=true:=by
 intro n
 induction n with
 |zero=>intro d h;cases d<;>simp_all [AG,Ac,eqD]
 |succ n ih=>
  have hl:∀l:List Dat,l.all (AG n)=true->eqL l l=true:=by
   intro l
   induction l with
   |nil=>intro _;simp [eqL]
   |cons x r tD=>
    intro h
    simp only [List.all_cons,Bool.and_eq_true]at h
    simp only [eqL,Bool.and_eq_true]
    exact ⟨ih x h.1,tD h.2⟩
  intro d h
  cases d<;>simp_all [AG,Ac,eqD]
theorem EB:∀(l m:List Dat),eqL l m=((List.range (min l.length m.length)).all (fun j=>match l[j]?,m[j]? with|some x,some y=>eqD x y|_,_=>true)&&l.length==m.length)
 |[],[]=>by simp [eqL]
 |[],_::_=>by simp [eqL]
 |_::_,[]=>by simp [eqL]
 |x::l,y::m=>by
  rw [eqL,EB l m,List.length_cons,List.length_cons,Nat.succ_min_succ,List.range_succ_eq_map,List.all_cons,List.all_map]
  simp only [List.getElem?_cons_zero,Function.comp_def,List.getElem?_cons_succ,Nat.succ_eq_add_one,Bool.and_assoc]
  congr 2
  rw [Bool.eq_iff_iff];simp
mutual
def AtH (h:Heap):Dat->Value->Prop
 |.non,u=>u=.none
 |.bl b,u=>u=.bool b
 |.int i,u=>∃t,u=.int i t
 |.str x,u=>∃t,u=.str x t
 |.fn a,u=>u=.ref a
 |.scr _,_=>False
 |.tup l,u=>∃a its,u=.ref a/\h.IsTuple a its.toArray/\AtL h l its
 |.lst l,u=>∃a its,u=.ref a/\h.IsList a its.toArray/\AtL h l its
def AtL (h:Heap):List Dat->List Value->Prop
 |[],us=>us=[]
 |d::ds,us=>∃u r,us=u::r/\AtH h d u/\AtL h ds r
end
theorem AtL.length {h:Heap}:∀{ds:List Dat} {us:List Value},AtL h ds us->us.length=ds.length
 |[],_,r=>by rw [AtL]at r;subst r;rfl
 |_::_,_,r=>by
  rw [AtL]at r
  obtain ⟨u,r,rfl,_,h3⟩:=r
  rw [List.length_cons,List.length_cons,AtL.length h3]
theorem AtL.get {h:Heap}:∀{ds:List Dat} {us:List Value} {i:Nat} {d:Dat},AtL h ds us->ds[i]?=some d->∃u,us[i]?=some u/\AtH h d u
 |[],_,_,_,_,e=>by simp at e
 |_::_,_,0,_,r,e=>by
  rw [AtL]at r
  obtain ⟨u,r,rfl,h2,_⟩:=r
  simp at e;subst e;exact ⟨u,rfl,h2⟩
 |_::_,_,i+1,d,r,e=>by
  rw [AtL]at r
  obtain ⟨u,r,rfl,_,h3⟩:=r
  obtain ⟨u',h4,h5⟩:=AtL.get (i:=i) (d:=d) h3 (by simpa using e)
  exact ⟨u',by simpa using h4,h5⟩
section
variable {X:Cx}{pins:List (Addr×Obj)}{σ:St}{H:Hp}{s:Shared}
mutual
theorem Rep.at (I:Inv X pins σ H s):∀{d:Dat} {v:V} {u:Value} {n:Nat},AG n d=true->Rep X.K H d v->RelV v u->AtH s.heap d u
 |.non,_,_,_,_,r,q=>by rw [Rep]at r;subst r;cases q;rw [AtH]
 |.bl _,_,_,_,_,r,q=>by rw [Rep]at r;subst r;cases q;rw [AtH]
 |.int _,_,_,_,_,r,q=>by rw [Rep]at r;subst r;rw [AtH];exact q
 |.str _,_,_,_,_,r,q=>by rw [Rep]at r;subst r;rw [AtH];exact q
 |.fn _,_,_,_,_,r,q=>by rw [Rep]at r;subst r;cases q;rw [AtH]
 |.scr _,_,_,n,p,_,_=>by cases n<;>simp [AG,Ac]at p
 |.tup l,_,_,n,p,r,q=>by
  rw [Rep]at r
  obtain ⟨a,vs,rfl,h1,h2⟩:=r
  cases q
  obtain ⟨its,rv,ht,_⟩:=I.tuple h1
  rw [AtH]
  refine ⟨a,its,rfl,ht,?_⟩
  cases n with
  |zero=>simp [AG,Ac]at p
  |succ n=>exact RepL.at I (n:=n) (by simpa [AG]using p) h2 rv
 |.lst l,_,_,n,p,r,q=>by
  rw [Rep]at r
  obtain ⟨a,vs,rfl,h1,h2⟩:=r
  cases q
  obtain ⟨its,rv,ht,_⟩:=I.list (SqL.of h1)
  rw [AtH]
  refine ⟨a,its,rfl,ht.isList,?_⟩
  cases n with
  |zero=>simp [AG,Ac]at p
  |succ n=>exact RepL.at I (n:=n) (by simpa [AG]using p) h2 rv
theorem RepL.at (I:Inv X pins σ H s):∀{ds:List Dat} {vs:List V} {us:List Value} {n:Nat},ds.all (AG n)=true->RepL X.K H ds vs->Vals vs us->AtL s.heap ds us
 |[],_,_,_,_,r,q=>by rw [RepL]at r;subst r;cases q;rw [AtL]
 |d::ds,_,_,n,p,r,q=>by
  rw [RepL]at r
  obtain ⟨v,r,rfl,h1,h2⟩:=r
  cases q with
  |cons q1 q2=>
   simp only [List.all_cons,Bool.and_eq_true]at p
   rw [AtL]
   exact ⟨_,_,rfl,Rep.at I p.1 h1 q1,RepL.at I p.2 h2 q2⟩
end
end
theorem AtH.flat {h:Heap} {d:Dat} {u:Value} (r:AtH h d u) (f:Ac d=true):∃v,RelV v u/\V3 v=true/\∀(d':Dat) (u':Value) (v':V),Ac d'=true->AtH h d' u'->RelV v' u'->eqV v v'=eqD d d':=by
 cases d<;>simp only [Ac,Bool.false_eq_true]at f<;>rw [AtH]at r
 ·subst r
  refine ⟨.non,rfl,rfl,fun d' u' v' f' r' q'=>?_⟩
  cases d'<;>simp only [Ac,Bool.false_eq_true]at f'<;>rw [AtH]at r'<;>first|(subst r';cases v'<;>simp_all [RelV,eqV,eqD];done)|(obtain ⟨t,rfl⟩:=r';cases v'<;>simp_all [RelV,eqV,eqD])
 ·subst r
  refine ⟨.bl _,rfl,rfl,fun d' u' v' f' r' q'=>?_⟩
  cases d'<;>simp only [Ac,Bool.false_eq_true]at f'<;>rw [AtH]at r'<;>first|(subst r';cases v'<;>simp_all [RelV,eqV,eqD];done)|(obtain ⟨t,rfl⟩:=r';cases v'<;>simp_all [RelV,eqV,eqD])
 ·refine ⟨.int _,r,rfl,fun d' u' v' f' r' q'=>?_⟩
  cases d'<;>simp only [Ac,Bool.false_eq_true]at f'<;>rw [AtH]at r'<;>first|(subst r';cases v'<;>simp_all [RelV,eqV,eqD];done)|(obtain ⟨t,rfl⟩:=r';cases v'<;>simp_all [RelV,eqV,eqD])
 ·refine ⟨.str _,r,rfl,fun d' u' v' f' r' q'=>?_⟩
  cases d'<;>simp only [Ac,Bool.false_eq_true]at f'<;>rw [AtH]at r'<;>first|(subst r';cases v'<;>simp_all [RelV,eqV,eqD];done)|(obtain ⟨t,rfl⟩:=r';cases v'<;>simp_all [RelV,eqV,eqD])
theorem OC {h:Heap} {a:Addr} {xs ys:Array Value} (h1:h.IsTuple a xs) (h2:h.IsList a ys):False:=by
 obtain ⟨o,e,c,_⟩:=h1
 obtain ⟨o',e',c',_⟩:=h2
 rw [e]at e';cases e'
 rw [c]at c';exact absurd c' (by decide)
theorem Te {h:Heap} {a:Addr} {xs ys:List Value} (h1:h.IsTuple a xs.toArray) (h2:h.IsTuple a ys.toArray):xs=ys:=by
 obtain ⟨o,e,c,n,d⟩:=h1
 obtain ⟨o',e',c',n',d'⟩:=h2
 rw [e]at e';cases e'
 rw [d]at d'
 injection d' with d1 _
 simpa using congrArg Array.toList d1
theorem VT {h:Heap} {a:Addr} {xs ys:List Value} (h1:h.IsList a xs.toArray) (h2:h.IsList a ys.toArray):xs=ys:=by
 obtain ⟨o,e,c,n,d⟩:=h1
 obtain ⟨o',e',c',n',d'⟩:=h2
 rw [e]at e';cases e'
 rw [d]at d'
 injection d' with d1 _
 simpa using congrArg Array.toList d1
theorem AtH.inj {h:Heap}:∀(n:Nat) {d d':Dat} {u:Value},AG n d=true->AG n d'=true->AtH h d u->AtH h d' u->d=d':=by
 have flat:∀{d d':Dat} {u:Value},Ac d=true->Ac d'=true->AtH h d u->AtH h d' u->d=d':=by
  intro d d' u f f' r r'
  cases d<;>simp only [Ac,Bool.false_eq_true]at f<;>cases d'<;>simp only [Ac,Bool.false_eq_true]at f'<;>simp only [AtH]at r r' <;>
   first
   |rfl
   |(subst r;cases r';rfl)
   |(obtain ⟨t,rfl⟩:=r;obtain ⟨t',e⟩:=r';cases e;rfl)
   |(exfalso;subst r;cases r';done)
   |(exfalso;subst r;obtain ⟨t',e⟩:=r';cases e;done)
   |(exfalso;obtain ⟨t,rfl⟩:=r;cases r';done)
   |(exfalso;obtain ⟨t,rfl⟩:=r;obtain ⟨t',e⟩:=r';cases e;done)
 have Rj:∀{d:Dat} {u:Value} {a:Addr},Ac d=true->AtH h d u->u=.ref a->False:=by
  intro d u a f r e
  subst e
  cases d<;>simp only [Ac,Bool.false_eq_true]at f<;>rw [AtH]at r<;>first|(cases r;done)|(obtain ⟨t,e⟩:=r;cases e;done)
 intro n
 induction n with
 |zero=>intro d d' u h h' r r';exact flat h h' r r'
 |succ n ih=>
  have hl:∀(l m:List Dat) (us:List Value),l.all (AG n)=true->m.all (AG n)=true->AtL h l us->AtL h m us->l=m:=by
   intro l
   induction l with
   |nil=>
    intro m us _ _ r r'
    rw [AtL]at r;subst r
    cases m with
    |nil=>rfl
    |cons y m=>rw [AtL]at r';obtain ⟨_,_,e,_⟩:=r';cases e
   |cons x l gJ=>
    intro m us h h' r r'
    rw [AtL]at r
    obtain ⟨v,rr,rfl,r1,r2⟩:=r
    cases m with
    |nil=>rw [AtL]at r';cases r'
    |cons y m=>
     rw [AtL]at r'
     obtain ⟨v',zA,e,Y4,Tj⟩:=r'
     cases e
     simp only [List.all_cons,Bool.and_eq_true]at h h'
     rw [ih h.1 h'.1 r1 Y4,gJ m _ h.2 h'.2 r2 Tj]
  intro d d' u h h' r r'
  by_cases f:Ac d=true
  ·by_cases f':Ac d'=true
   ·exact flat f f' r r'
   ·exfalso
    cases d'<;>simp [AG,Ac]at h' f'
    ·rw [AtH]at r';obtain ⟨a,_,e,_⟩:=r';exact Rj f r e
    ·rw [AtH]at r';obtain ⟨a,_,e,_⟩:=r';exact Rj f r e
  ·by_cases f':Ac d'=true
   ·exfalso
    cases d<;>simp [AG,Ac]at h f
    ·rw [AtH]at r;obtain ⟨a,_,e,_⟩:=r;exact Rj f' r' e
    ·rw [AtH]at r;obtain ⟨a,_,e,_⟩:=r;exact Rj f' r' e
   ·cases d<;>simp [AG,Ac]at h f<;>cases d'<;>simp [AG,Ac]at h' f'<;>simp only [AtH]at r r'<;>obtain ⟨a,xs,e1,t1,l1⟩:=r<;>obtain ⟨b,ys,e2,t2,l2⟩:=r'<;>subst e1<;>cases e2
    ·have:=Te t1 t2
     subst this
     rw [hl _ _ _ (List.all_eq_true.mpr h) (List.all_eq_true.mpr h') l1 l2]
    ·exact (OC t1 t2).elim
    ·exact (OC t2 t1).elim
    ·have:=VT t1 t2
     subst this
     rw [hl _ _ _ (List.all_eq_true.mpr h) (List.all_eq_true.mpr h') l1 l2]
theorem Rep.inj {X:Cx} {pins:List (Addr×Obj)} {σ:St} {H:Hp} {s:Shared} (I:Inv X pins σ H s) (n:Nat) {d d':Dat} {v:V} {u:Value} (h:AG n d=true) (h':AG n d'=true) (r:Rep X.K H d v) (r':Rep X.K H d' v) (q:RelV v u):d=d':=
 AtH.inj n h h' (r.at I h q) (r'.at I h' q)
theorem IL {s:Shared}:∀(n:Nat) {A:Around} {d e:Dat} {u v:Value},AG n d=true->AG n e=true->AtH s.heap d u->AtH s.heap e v->A.units+n<cLine →
  SeqAt.EqAt A s u v (eqD d e)/\SeqAt.RcAt A s u v (eqD d e):=by
 have ZM:∀{A:Around} {d e:Dat} {u v:Value},Ac d=true->Ac e=true->AtH s.heap d u->AtH s.heap e v->SeqAt.EqAt A s u v (eqD d e)/\SeqAt.RcAt A s u v (eqD d e):=by
  intro A d e u v fd fe rd re
  constructor
  ·obtain ⟨x,hx,fx,h1⟩:=AtH.flat rd fd
   obtain ⟨y,hy,fy,_⟩:=AtH.flat re fe
   rw [<-h1 e v y fe re hy]
   exact au hx hy fx fy
  ·cases d<;>simp only [Ac,Bool.false_eq_true]at fd<;>cases e<;>simp only [Ac,Bool.false_eq_true]at fe<;>simp only [AtH]at rd re<;>simp only [eqD]
   ·subst rd;subst re;exact SeqAt.RcAt.none_none
   ·subst rd;subst re;exact SeqAt.RcAt.none_bool _
   ·subst rd;obtain ⟨_,rfl⟩:=re;exact SeqAt.RcAt.none_int _ _
   ·subst rd;obtain ⟨_,rfl⟩:=re;exact SeqAt.RcAt.none_str _ _
   ·subst rd;subst re;exact SeqAt.RcAt.bool_none _
   ·subst rd;subst re;exact SeqAt.RcAt.bool_bool _ _
   ·subst rd;obtain ⟨_,rfl⟩:=re;exact SeqAt.RcAt.bool_int _ _ _
   ·subst rd;obtain ⟨_,rfl⟩:=re;exact SeqAt.RcAt.bool_str _ _ _
   ·obtain ⟨_,rfl⟩:=rd;subst re;exact SeqAt.RcAt.int_none _ _
   ·obtain ⟨_,rfl⟩:=rd;subst re;exact SeqAt.RcAt.int_bool _ _ _
   ·obtain ⟨_,rfl⟩:=rd;obtain ⟨_,rfl⟩:=re;exact SeqAt.RcAt.int_int _ _ _ _
   ·obtain ⟨_,rfl⟩:=rd;obtain ⟨_,rfl⟩:=re;exact SeqAt.RcAt.int_str _ _ _ _
   ·obtain ⟨_,rfl⟩:=rd;subst re;exact SeqAt.RcAt.str_none _ _
   ·obtain ⟨_,rfl⟩:=rd;subst re;exact SeqAt.RcAt.str_bool _ _ _
   ·obtain ⟨_,rfl⟩:=rd;obtain ⟨_,rfl⟩:=re;exact SeqAt.RcAt.str_int _ _ _ _
   ·obtain ⟨_,rfl⟩:=rd;obtain ⟨_,rfl⟩:=re;exact SeqAt.RcAt.str_str _ _ _ _
 intro n
 induction n with
 |zero=>intro A d e u v hd he rd re _;exact ZM hd he rd re
 |succ n ih=>
  intro A d e u v hd he rd re hu
  have C9:A.units<cLine:=by lia
  have items:∀(l m:List Dat) (is js:List Value),l.all (AG n)=true->m.all (AG n)=true->AtL s.heap l is->AtL s.heap m js →
    ∀j (h1:j<is.toArray.size) (h2:j<js.toArray.size),SeqAt.EqAt A.in1 s is.toArray[j] js.toArray[j] ((fun j=>match l[j]?,m[j]? with|some x,some y=>eqD x y|_,_=>true) j):=by
   intro l m is js hl hm rl rm j h1 h2
   have YU:j<is.length:=by simpa using h1
   have Wy:j<js.length:=by simpa using h2
   have l1:j<l.length:=by rw [<-rl.length];exact YU
   have l2:j<m.length:=by rw [<-rm.length];exact Wy
   obtain ⟨u1,f1,q1⟩:=rl.get (List.getElem?_eq_getElem l1)
   obtain ⟨u2,f2,q2⟩:=rm.get (List.getElem?_eq_getElem l2)
   rw [List.getElem?_eq_getElem YU]at f1
   rw [List.getElem?_eq_getElem Wy]at f2
   cases f1
   cases f2
   have hx:AG n l[j]=true:=List.all_eq_true.mp hl _ (List.getElem_mem l1)
   have hy:AG n m[j]=true:=List.all_eq_true.mp hm _ (List.getElem_mem l2)
   have:=(ih (A:=A.in1) hx hy q1 q2 (by show A.units+1+n<cLine;lia)).1
   simpa [List.getElem?_eq_getElem l1,List.getElem?_eq_getElem l2]using this
  by_cases fd:Ac d=true
  ·by_cases fe:Ac e=true
   ·exact ZM fd fe rd re
   ·cases e<;>simp [AG,Ac]at he fe
    ·rw [AtH]at re
     obtain ⟨b,js,rfl,tj,rm⟩:=re
     cases d<;>simp only [Ac,Bool.false_eq_true]at fd<;>rw [AtH]at rd
     ·subst rd;exact ⟨.none_tuple tj C9,.none_tuple tj C9⟩
     ·subst rd;exact ⟨.bool_tuple _ tj C9,.bool_tuple _ tj C9⟩
     ·obtain ⟨t,rfl⟩:=rd;exact ⟨.int_tuple _ _ tj C9,.int_tuple _ _ tj C9⟩
     ·obtain ⟨t,rfl⟩:=rd;exact ⟨.str_tuple _ _ tj C9,.str_tuple _ _ tj C9⟩
    ·rw [AtH]at re
     obtain ⟨b,js,rfl,tj,rm⟩:=re
     cases d<;>simp only [Ac,Bool.false_eq_true]at fd<;>rw [AtH]at rd
     ·subst rd;exact ⟨.none_list tj C9,.none_list tj C9⟩
     ·subst rd;exact ⟨.bool_list _ tj C9,.bool_list _ tj C9⟩
     ·obtain ⟨t,rfl⟩:=rd;exact ⟨.int_list _ _ tj C9,.int_list _ _ tj C9⟩
     ·obtain ⟨t,rfl⟩:=rd;exact ⟨.str_list _ _ tj C9,.str_list _ _ tj C9⟩
  ·cases d with
   |tup l=>
    have bp:=rd
    rw [AtH]at rd
    obtain ⟨a,is,rfl,ti,rl⟩:=rd
    cases e with
    |tup m=>
     have mP:=re
     rw [AtH]at re
     obtain ⟨b,js,rfl,tj,rm⟩:=re
     have rc:SeqAt.RcAt A s (.ref a) (.ref b) (eqD (.tup l) (.tup m)):=by
      have:=SeqAt.RcAt.tuples ti tj C9 (items l m is js (by simpa [AG]using hd) (by simpa [AG]using he) rl rm)
      rw [eqD,EB]
      have e1:is.toArray.size=l.length:=by rw [List.size_toArray,rl.length]
      have e2:js.toArray.size=m.length:=by rw [List.size_toArray,rm.length]
      rw [e1,e2]at this
      exact this
     refine ⟨?_,rc⟩
     by_cases M8:a=b
     ·subst M8
      have:=AtH.inj (n+1) hd he bp mP
      rw [<-this,OP (n+1) _ hd]
      exact SeqAt.EqAt.same _
     ·exact SeqAt.EqAt.of_refs M8 rc
    |lst m=>
     rw [AtH]at re
     obtain ⟨b,js,rfl,tj,rm⟩:=re
     exact ⟨.tuple_list ti tj C9,.tuple_list ti tj C9⟩
    |fn a=>simp [AG,Ac]at he
    |scr a=>simp [AG,Ac]at he
    |non=>rw [AtH]at re;subst re;exact ⟨.tuple_none ti C9,.tuple_none ti C9⟩
    |bl b=>rw [AtH]at re;subst re;exact ⟨.tuple_bool _ ti C9,.tuple_bool _ ti C9⟩
    |int b=>rw [AtH]at re;obtain ⟨t,rfl⟩:=re;exact ⟨.tuple_int _ _ ti C9,.tuple_int _ _ ti C9⟩
    |str b=>rw [AtH]at re;obtain ⟨t,rfl⟩:=re;exact ⟨.tuple_str _ _ ti C9,.tuple_str _ _ ti C9⟩
   |lst l=>
    have bp:=rd
    rw [AtH]at rd
    obtain ⟨a,is,rfl,ti,rl⟩:=rd
    cases e with
    |tup m=>
     rw [AtH]at re
     obtain ⟨b,js,rfl,tj,rm⟩:=re
     exact ⟨.list_tuple ti tj C9,.list_tuple ti tj C9⟩
    |lst m=>
     have mP:=re
     rw [AtH]at re
     obtain ⟨b,js,rfl,tj,rm⟩:=re
     have e1:is.toArray.size=l.length:=by rw [List.size_toArray,rl.length]
     have e2:js.toArray.size=m.length:=by rw [List.size_toArray,rm.length]
     have rc:SeqAt.RcAt A s (.ref a) (.ref b) (eqD (.lst l) (.lst m)):=by
      rw [eqD,EB]
      by_cases hsz:l.length=m.length
      ·have:=SeqAt.RcAt.lists ti tj (by rw [e1,e2,hsz]) C9 (items l m is js (by simpa [AG]using hd) (by simpa [AG]using he) rl rm)
       rw [e1]at this
       rw [hsz,Nat.min_self,beq_self_eq_true,Bool.and_true,<-hsz]
       exact this
      ·have:=SeqAt.RcAt.lists_lengths ti tj (by rw [e1,e2];simpa using hsz) C9
       rw [show (l.length==m.length)=false by simpa using hsz,Bool.and_false]
       exact this
     refine ⟨?_,rc⟩
     by_cases M8:a=b
     ·subst M8
      have:=AtH.inj (n+1) hd he bp mP
      rw [<-this,OP (n+1) _ hd]
      exact SeqAt.EqAt.same _
     ·exact SeqAt.EqAt.of_refs M8 rc
    |fn a=>simp [AG,Ac]at he
    |scr a=>simp [AG,Ac]at he
    |non=>rw [AtH]at re;subst re;exact ⟨.list_none ti C9,.list_none ti C9⟩
    |bl b=>rw [AtH]at re;subst re;exact ⟨.list_bool _ ti C9,.list_bool _ ti C9⟩
    |int b=>rw [AtH]at re;obtain ⟨t,rfl⟩:=re;exact ⟨.list_int _ _ ti C9,.list_int _ _ ti C9⟩
    |str b=>rw [AtH]at re;obtain ⟨t,rfl⟩:=re;exact ⟨.list_str _ _ ti C9,.list_str _ _ ti C9⟩
   |fn a=>simp [AG,Ac]at hd
   |scr a=>simp [AG,Ac]at hd
   |non=>simp [Ac]at fd
   |bl a=>simp [Ac]at fd
   |int a=>simp [Ac]at fd
   |str a=>simp [Ac]at fd
section
variable {X:Cx}
def mU (K:PySem.W.Frag):R2:=fun x y H Q=>∃d e,Rep K H d x/\Rep K H e y/\AG 9 d=true/\AG 9 e=true/\Q (.bl (eqD d e)) H
theorem cI (hu:X.A.units+9<cLine):OpR X (compareOp .Eq) (mU X.K):=by
 intro pins s σ H x y v u Q I rx ry h
 obtain ⟨d,e,rd,re,pd,pe,q⟩:=h
 exact (IL 9 pd pe (rd.at I pd rx) (re.at I pe ry) hu).2 _ _ _ _ ⟨.bl _,H,I,rfl,q⟩
def CC (K:PySem.W.Frag) (H:Hp) (l:List Dat) (x:Dat) (u:Value):Bool:=
 open Classical in if h:∃d v,d∈l/\RelV v u/\Rep K H d v then eqD (Classical.choose h) x else false
theorem ME {pins:List (Addr×Obj)} {σ:St} {H:Hp} {s:Shared} (I:Inv X pins σ H s) {l:List Dat} {x d:Dat} {v:V} {u:Value} (hl:l.all (AG 8)=true) (hd:d∈l) (r:RelV v u) (q:Rep X.K H d v) :
  CC X.K H l x u=eqD d x:=by
 have h:∃d v,d∈l/\RelV v u/\Rep X.K H d v:=⟨d,v,hd,r,q⟩
 unfold CC
 rw [dif_pos h]
 obtain ⟨v',h1,h2,h3⟩:=Classical.choose_spec h
 have e:v'=v:=h2.inj r
 subst e
 have p:=List.all_eq_true.mp hl
 rw [Rep.inj I 8 (p _ h1) (p _ hd) h3 q r]
theorem DY {pins:List (Addr×Obj)} {σ:St} {H:Hp} {s:Shared} (I:Inv X pins σ H s) {x:Dat} {L:List Dat} (hL:L.all (AG 8)=true) :
  ∀{l:List Dat} {vs:List V} {us:List Value},(∀d∈l,d∈L)->RepL X.K H l vs->Vals vs us->us.any (CC X.K H L x)=l.any fun d=>eqD d x
 |[],_,_,_,rl,rv=>by rw [RepL]at rl;subst rl;cases rv;rfl
 |d::l,_,_,hs,rl,rv=>by
  rw [RepL]at rl
  obtain ⟨v,r,rfl,r1,r2⟩:=rl
  cases rv with
  |cons q1 q2=>
   rw [List.any_cons,List.any_cons,ME I hL (hs d List.mem_cons_self) q1 r1,DY I hL (fun e he=>hs e (List.mem_cons_of_mem _ he)) r2 q2]
theorem DV {pins:List (Addr×Obj)} {σ:St} {H:Hp} {s:Shared} (I:Inv X pins σ H s) {x:Dat} {y:V} {w:Value} {A:Around} (hx:AG 8 x=true) (rx:Rep X.K H x y) (ry:RelV y w) (hu:A.units+8<cLine) {L:List Dat} (hL:L.all (AG 8)=true) :
  ∀{l:List Dat} {vs:List V} {us:List Value},(∀d∈l,d∈L)->RepL X.K H l vs->Vals vs us->∀u∈us,SeqAt.EqAt A s u w (CC X.K H L x u)
 |[],_,_,_,rl,rv,u,hm=>by rw [RepL]at rl;subst rl;cases rv;cases hm
 |d::l,_,_,hs,rl,rv,u,hm=>by
  rw [RepL]at rl
  obtain ⟨v,r,rfl,r1,r2⟩:=rl
  cases rv with
  |cons q1 q2=>
   rcases List.mem_cons.mp hm with e|hm
   ·subst e
    rw [ME I hL (hs d List.mem_cons_self) q1 r1]
    exact (IL 8 (List.all_eq_true.mp hL d (hs d List.mem_cons_self)) hx (r1.at I (List.all_eq_true.mp hL d (hs d List.mem_cons_self)) q1) (rx.at I hx ry) hu).1
   ·exact DV I hx rx ry hu hL (fun e he=>hs e (List.mem_cons_of_mem _ he)) r2 q2 u hm
def dB (K:PySem.W.Frag) (neg:Bool):R2:=fun x y H Q=>∃p vs d l,y=.ref p/\(H p=some (.lst vs)\/SqT K H p vs)/\RepL K H l vs/\Rep K H d x/\AG 8 d=true/\l.all (AG 8)=true/\Q (.bl (if neg then !(l.any fun e=>eqD e d)else l.any fun e=>eqD e d)) H
theorem aC (hu:X.A.units+9<cLine):OpR X (compareOp .In) (dB X.K false):=by
 intro pins s σ H x y v u Q I rx ry h
 obtain ⟨p,vs,d,l,rfl,hq,rl,rd,pd,pl,q⟩:=h
 cases ry
 have IE:X.A.in1.units+8<cLine:=by show X.A.units+1+8<cLine;lia
 rcases hq with hq|hq
 ·obtain ⟨its,r,Z4,hz⟩:=I.list (SqL.of hq)
  refine SeqAt.in_listAt (CC X.K H l d) Z4.isList (fun w hw=>DV I pd rd rx IE pl (fun _ h=>h) rl r w (by simpa using hw)) ⟨.bl _,H,I,rfl,?_⟩
  rw [show its.toArray.any (CC X.K H l d)=its.any (CC X.K H l d) by simp,DY I pl (fun _ h=>h) rl r]
  exact q
 ·obtain ⟨its,r,Z4,hz⟩:=I.tuple hq
  refine SeqAt.in_tupleAt (CC X.K H l d) Z4 (fun w hw=>DV I pd rd rx IE pl (fun _ h=>h) rl r w (by simpa using hw)) ⟨.bl _,H,I,rfl,?_⟩
  rw [show its.toArray.any (CC X.K H l d)=its.any (CC X.K H l d) by simp,DY I pl (fun _ h=>h) rl r]
  exact q
theorem UM (hu:X.A.units+9<cLine):OpR X (compareOp .NotIn) (dB X.K true):=by
 intro pins s σ H x y v u Q I rx ry h
 obtain ⟨p,vs,d,l,rfl,hq,rl,rd,pd,pl,q⟩:=h
 cases ry
 have IE:X.A.in1.units+8<cLine:=by show X.A.units+1+8<cLine;lia
 rcases hq with hq|hq
 ·obtain ⟨its,r,Z4,hz⟩:=I.list (SqL.of hq)
  refine SeqAt.notIn_listAt (CC X.K H l d) Z4.isList (fun w hw=>DV I pd rd rx IE pl (fun _ h=>h) rl r w (by simpa using hw)) ⟨.bl _,H,I,rfl,?_⟩
  rw [show its.toArray.any (CC X.K H l d)=its.any (CC X.K H l d) by simp,DY I pl (fun _ h=>h) rl r]
  exact q
 ·obtain ⟨its,r,Z4,hz⟩:=I.tuple hq
  refine SeqAt.notIn_tupleAt (CC X.K H l d) Z4 (fun w hw=>DV I pd rd rx IE pl (fun _ h=>h) rl r w (by simpa using hw)) ⟨.bl _,H,I,rfl,?_⟩
  rw [show its.toArray.any (CC X.K H l d)=its.any (CC X.K H l d) by simp,DY I pl (fun _ h=>h) rl r]
  exact q
end
section
variable {X:Cx}{ρ:Rho}{G:Gs}{e a b c:Expr}{es:List Expr}{d d' d1 d2:Dat}{ds l m:List Dat}{pos:Pos}{i j k:Int}
theorem BA (ha:PX X ρ G a (.int i)) (hb:PX X ρ G b (.int j)):PX X ρ G (.BinOp a .Add b pos) (.int (i+j)):=JI aq ha hb fun H x y Q o hx hy k=>⟨i,j,hx,hy,k _ _ (BL o rfl)⟩
theorem Ih (ha:PX X ρ G a (.int i)) (hb:PX X ρ G b (.int j)):PX X ρ G (.BinOp a .Sub b pos) (.int (i-j)):=JI bR ha hb fun H x y Q o hx hy k=>⟨i,j,hx,hy,k _ _ (BL o rfl)⟩
theorem Qi (ha:PX X ρ G a (.int i)) (hb:PX X ρ G b (.int j)) (hc:CMul i j):PX X ρ G (.BinOp a .Mult b pos) (.int (i*j)):=JI aN ha hb fun H x y Q o hx hy k=>⟨i,j,hx,hy,hc,k _ _ (BL o rfl)⟩
theorem Et (ha:PX X ρ G a (.int i)) (hb:PX X ρ G b (.int j)) (hc:0<j):PX X ρ G (.BinOp a .Mod b pos) (.int (i%j)):=JI ag ha hb fun H x y Q o hx hy k=>⟨i,j,hx,hy,hc,k _ _ (BL o rfl)⟩
theorem YX (ha:PX X ρ G a (.int i)) (hb:PX X ρ G b (.int j)) (hc:fi i j):PX X ρ G (.BinOp a .FloorDiv b pos) (.int (i / j)):=JI Xf ha hb fun H x y Q o hx hy k=>⟨i,j,hx,hy,hc,k _ _ (BL o rfl)⟩
theorem Q6 (ha:PX X ρ G a (.int i)):PX X ρ G (.UnaryOp .USub a pos) (.int (-i)):=
 Ba (fZ Zj Ak) fun σ H S=>⟨ρ,G,_,ha,S,fun x H1 ⟨_,_,e1,o1,r1,q1,Bp⟩=>by
  subst q1;subst Bp
  exact ⟨i,r1,Po.trans e1 (BL o1 rfl)⟩⟩
def PXC (X:Cx) (ρ:Rho) (G:Gs) (op:CmpOp) (a b:Expr) (d:Dat):Prop:=
 ∀(pins:List (Addr×Obj)) (s:Shared) (σ:St) (H:Hp),Inv X pins σ H s->Stt X H σ ρ G →
  wpAny (model X.prog X.w) X.A (eval a X.env) (fun v s₁=>wpAny (model X.prog X.w) X.A (eval b X.env) (fun u s₂=>wpAny (model X.prog X.w) X.A (compareOp op v u) (EP X pins σ (Po X H G fun d' G'=>d'=d/\G'=G)) X.xe s₂) X.xe s₁) X.xe s
theorem DB {op:CmpOp} {r:R2} (ho:OpR X (compareOp op) r) (ha:PX X ρ G a d1) (hb:PX X ρ G b d2)
  (hr:∀(H:Hp) (x y:V) (Q:VK),GOk X.K H G->Rep X.K (hid H G) d1 x->Rep X.K (hid H G) d2 y->(∀v H',Po X H G (fun d' G'=>d'=d/\G'=G) v H'->Q v H')->r x y H Q):PXC X ρ G op a b d:=by
 intro pins s σ H I S
 refine thn (ha pins s σ H I S) fun v s1 ⟨x,H1,I1,rx,_,_,e1,o1,r1,q1,Bp⟩=>?_
 subst q1;subst Bp
 refine thn (hb pins s1 σ H1 I1 (S.ext e1 o1)) fun u s2 ⟨y,H2,I2,ry,_,_,e2,o2,r2,q2,Ek⟩=>?_
 subst q2;subst Ek
 exact ho pins s2 σ H2 x y v u _ I2 rx ry (hr H2 x y _ o2 (r1.same e2.hid) r2 fun v H' z=>Po.trans (e1.trans e2) z)
theorem N5 {op:CmpOp} (h:PXC X ρ G op a b d) (hm:behindInMarks op b=false:=by first|exact Oa _ (by decide) (by decide)|rfl):PX X ρ G (.Compare a [op] [b] pos) d:=fun pins s σ H I S=>wpAny_Compare1 (h pins s σ H I S) hm
theorem Br {op:CmpOp} {p:Bool} (h:PXC X ρ G op a b (.bl p)) (hm:behindInMarks op b=false:=by first|exact Oa _ (by decide) (by decide)|rfl):PXT X ρ G (.Compare a [op] [b] pos) p:=by
 intro pins s σ H I S
 refine wpAny_isTrue_Compare1 (thn (h pins s σ H I S) fun v s1 h1=>thn h1 fun u s2 h2=>thn h2 fun c s3 ⟨x,H1,I1,r1,_,_,e1,o1,q1,q2,Ek⟩=>?_) hm
 subst q2;subst Ek
 cases (show x=V.bl p from q1)
 cases r1
 exact wpAny_truthy_bool ⟨H1,I1,_,e1,o1,rfl,rfl⟩
theorem aS (ha:PX X ρ G a (.int i)) (hb:PX X ρ G b (.int j)):PXC X ρ G .Lt a b (.bl (decide (i<j))):=DB dh ha hb fun H x y Q o hx hy k=>⟨i,j,hx,hy,k _ _ (BL o rfl)⟩
theorem Qw (ha:PX X ρ G a (.int i)) (hb:PX X ρ G b (.int j)):PXC X ρ G .Gt a b (.bl (decide (j<i))):=DB gU ha hb fun H x y Q o hx hy k=>⟨i,j,hx,hy,k _ _ (BL o rfl)⟩
theorem Cm (ha:PX X ρ G a (.int i)) (hb:PX X ρ G b (.int j)):PXC X ρ G .Eq a b (.bl (i==j)):=
 DB Y8 ha hb fun H x y Q o hx hy k=>by
  cases (show x=V.int i from hx);cases (show y=V.int j from hy)
  exact ⟨rfl,by rw [Jf];exact k _ _ (BL o rfl)⟩
theorem YY (ha:PX X ρ G a (.int i)) (hb:PX X ρ G b (.int j)):PXC X ρ G .NotEq a b (.bl (!(i==j))):=
 DB ZJ ha hb fun H x y Q o hx hy k=>by
  cases (show x=V.int i from hx);cases (show y=V.int j from hy)
  exact ⟨rfl,by rw [Jf];exact k _ _ (BL o rfl)⟩
theorem VL (hu:X.A.units+9<cLine) (ha:PX X ρ G a d1) (hb:PX X ρ G b d2) (p1:AG 9 d1=true) (p2:AG 9 d2=true):PXC X ρ G .Eq a b (.bl (eqD d1 d2)):=
 DB (cI hu) ha hb fun H x y Q o hx hy k=>⟨d1,d2,hx.same AJ,hy.same AJ,p1,p2,k _ _ (BL o rfl)⟩
theorem in_of {H:Hp} {K:PySem.W.Frag} {y:V} (hy:Rep K (hid H G) (.tup l) y\/Rep K (hid H G) (.lst l) y):∃p vs,y=.ref p/\(H p=some (.lst vs)\/SqT K H p vs)/\RepL K H l vs:=by
 rcases hy with hy|hy
 ·rw [Rep]at hy
  obtain ⟨p,vs,e,h1,h2⟩:=hy
  exact ⟨p,vs,e,.inr (Af AJ h1),h2.same AJ⟩
 ·rw [Rep]at hy
  obtain ⟨p,vs,e,h1,h2⟩:=hy
  exact ⟨p,vs,e,.inl (AJ _ _ h1),h2.same AJ⟩
theorem IQ {op} (h:PX X ρ G a d):PX X ρ G (.BoolOp op [a] pos) d:=fun pins s σ H I S=>BoolOp_one (h pins s σ H I S)
theorem Dj {rest:List Expr} {p q:Bool} (ha:PX X ρ G a (.bl p)) (hb:p=true->PX X ρ G (.BoolOp .And (b::rest) pos) (.bl q)):PX X ρ G (.BoolOp .And (a::b::rest) pos) (.bl (p&&q)):=by
 intro pins s σ H I S
 refine BoolOp_and (thn (ha pins s σ H I S) fun v s1 ⟨x,H1,I1,r1,_,_,e1,o1,rx,q1,Bp⟩=>?_)
 subst q1;subst Bp
 cases (show x=V.bl p from rx)
 cases r1
 refine wpAny_truthy_bool ?_
 cases p with
 |true=>exact thn (hb rfl pins s1 σ H1 I1 (S.ext e1 o1)) fun _ _ z=>EP.mono z fun _ _ y=>Po.trans e1 y
 |false=>exact ⟨.bl false,H1,I1,rfl,.bl false,_,e1,o1,rfl,rfl,rfl⟩
theorem Zz {p:Bool} (ha:PX X ρ G a (.bl p)):PX X ρ G (.UnaryOp .Not a pos) (.bl (!p)):=by
 intro pins s σ H I S
 refine UnaryOp_ (thn (ha pins s σ H I S) fun v s1 ⟨x,H1,I1,r1,_,_,e1,o1,rx,q1,Bp⟩=>?_)
 subst q1;subst Bp
 cases (show x=V.bl p from rx)
 cases r1
 exact not_of (wpAny_truthy_bool ⟨.bl (!p),H1,I1,rfl,.bl (!p),_,e1,o1,rfl,rfl,rfl⟩)
def PXW (X:Cx) (ρ:Rho) (G:Gs) (e:Expr) (b:Bool):Prop:=
 ∀(whole:Sem Value) (pins:List (Addr×Obj)) (s:Shared) (σ:St) (H:Hp),Inv X pins σ H s->Stt X H σ ρ G->wpAny (model X.prog X.w) X.A (isTrue e X.env whole) (TP X pins σ (PoT X H G fun b' G'=>b'=b/\G'=G)) X.xe s
theorem PXW.t {p:Bool} (h:PXW X ρ G e p):PXT X ρ G e p:=fun pins s σ H I S=>h _ pins s σ H I S
theorem K7 {p:Bool} {Q:Bool->Gs->Prop} (h:PXT X ρ G e p) (q:Q p G):WT X ρ G e Q:=fun pins s σ H I S=>thn (h pins s σ H I S) fun _ _ z=>TP.mono z fun _ _ ⟨_,e,o,q1,q2⟩=>by
 subst q1;subst q2;exact ⟨_,e,o,q⟩
theorem PK {p:Bool} (h:PXT X ρ G a p):PXW X ρ G (.BoolOp .And [a] pos) p:=by
 intro wh pins s σ H I S
 refine isTrue_and (thn (h pins s σ H I S) fun c s1 e=>?_)
 cases c with
 |true=>exact isTrue_and_nil e
 |false=>exact e
theorem Hn {p:Bool} (h:PXT X ρ G a p):PXW X ρ G (.BoolOp .Or [a] pos) p:=by
 intro wh pins s σ H I S
 refine isTrue_or (thn (h pins s σ H I S) fun c s1 e=>?_)
 cases c with
 |false=>exact isTrue_or_nil e
 |true=>exact e
theorem RN {rest:List Expr} {p q:Bool} (ha:PXT X ρ G a p) (hb:p=true->PXW X ρ G (.BoolOp .And (b::rest) pos) q):PXW X ρ G (.BoolOp .And (a::b::rest) pos) (p&&q):=by
 intro wh pins s σ H I S
 refine isTrue_and (thn (ha pins s σ H I S) fun c s1 ⟨H1,I1,_,e1,o1,q1,q2⟩=>?_)
 subst q1;subst q2
 cases c with
 |true=>exact thn (hb rfl wh pins s1 σ H1 I1 (S.ext e1 o1)) fun _ _ z=>TP.mono z fun _ _ y=>PoT.trans e1 y
 |false=>exact ⟨H1,I1,_,e1,o1,rfl,rfl⟩
theorem Ex {rest:List Expr} {p q:Bool} (ha:PXT X ρ G a p) (hb:p=false->PXW X ρ G (.BoolOp .Or (b::rest) pos) q):PXW X ρ G (.BoolOp .Or (a::b::rest) pos) (p||q):=by
 intro wh pins s σ H I S
 refine isTrue_or (thn (ha pins s σ H I S) fun c s1 ⟨H1,I1,_,e1,o1,q1,q2⟩=>?_)
 subst q1;subst q2
 cases c with
 |false=>exact thn (hb rfl wh pins s1 σ H1 I1 (S.ext e1 o1)) fun _ _ z=>TP.mono z fun _ _ y=>PoT.trans e1 y
 |true=>exact ⟨H1,I1,_,e1,o1,rfl,rfl⟩
theorem BP {p:Bool} (ha:PXT X ρ G a p):PXT X ρ G (.UnaryOp .Not a pos) (!p):=by
 intro pins s σ H I S
 refine isTrue_not (Q:=TP X pins σ (PoT X H G fun b' G'=>b'=(!p)/\G'=G)) (thn (ha pins s σ H I S) fun c s1 ⟨H1,I1,_,e1,o1,q1,q2⟩=>?_)
 subst q1;subst q2
 exact ⟨H1,I1,_,e1,o1,rfl,rfl⟩
theorem B1 {p:Bool} (h:PX X ρ G e (.bl p)) (he:∀whole,isTrue e X.env whole=(do let v <-whole;standAt e.pos;holding [v] (truthy v)):=by intro _;rfl):PXT X ρ G e p:=by
 intro pins s σ H I S
 refine isTrue_plain (thn (h pins s σ H I S) fun v s1 ⟨x,H1,I1,r1,_,_,e1,o1,rx,q1,Bp⟩=>?_) (he _)
 subst q1;subst Bp
 cases (show x=V.bl p from rx)
 cases r1
 exact wpAny_truthy_bool ⟨H1,I1,_,e1,o1,rfl,rfl⟩
def cK:Dat->Option Bool
 |.non=>some false
 |.bl b=>some b
 |.int i=>some (i != 0)
 |.tup l=>some (!l.isEmpty)
 |.lst l=>some (!l.isEmpty)
 |_=>none
theorem X2 {K:PySem.W.Frag} {H:Hp} {v:V} {p:Bool} (h:cK d=some p) (r:Rep K (hid H G) d v):ax K v H p:=by
 cases d<;>simp only [cK,Option.some.injEq,reduceCtorEq]at h<;>subst h<;>rw [Rep]at r
 ·subst r;rfl
 ·subst r;rfl
 ·subst r;rfl
 ·obtain ⟨a,vs,rfl,h1,h2⟩:=r
  refine .inr (.inl ⟨vs,Af AJ h1,?_⟩)
  have:=h2.length
  rename_i l
  cases l<;>cases vs<;>simp_all
 ·obtain ⟨a,vs,rfl,h1,h2⟩:=r
  refine .inl ⟨vs,SqL.of (AJ _ _ h1),?_⟩
  have:=h2.length
  rename_i l
  cases l<;>cases vs<;>simp_all
theorem IY {p:Bool} (h:PX X ρ G e d) (ht:cK d=some p) (he:∀whole,isTrue e X.env whole=(do let v <-whole;standAt e.pos;holding [v] (truthy v)):=by intro _;rfl):PXT X ρ G e p:=
 Yp (Vp Ak he) fun σ H S=>⟨ρ,G,_,h,S,fun x H1 ⟨_,_,e1,o1,r1,q1,Bp⟩=>by
  subst q1;subst Bp
  exact ⟨p,X2 ht r1,_,e1,o1,rfl,rfl⟩⟩
theorem AF:PXs X ρ G [] []:=SF D3 fun σ H S=>⟨[],G,Ext.refl,S.own,RepL.nil,rfl,rfl⟩
theorem AD (ha:PX X ρ G e d) (hr:PXs X ρ G es ds) (hs:starEach (e::es) X.env=(false,eval e X.env)::starEach es X.env:=by rfl):PXs X ρ G (e::es) (d::ds):=
 SF (B3 Ak Kd hs) fun σ H S=>⟨ρ,G,_,ha,S,fun x H1 ⟨_,_,e1,o1,r1,q1,Bp⟩=>by
  subst q1;subst Bp
  refine ⟨ρ,_,_,hr,S.ext e1 o1,fun xs H2 ⟨_,_,e2,o2,r2,q2,Ek⟩=>?_⟩
  subst q2;subst Ek
  exact ⟨_,_,e1.trans e2,o2,RepL.cons (r1.same e2.hid) r2,rfl,rfl⟩⟩
theorem Jn {H:Hp} {p:Addr} {vs:List V} (o:GOk X.K H G) (hp:H p=none) (r:RepL X.K (hid H G) ds vs):Po X H G (fun d' G'=>d'=.tup ds/\G'=G) (.ref p) (upd H p (.tup vs)):=
 po1 (Ext.alloc hp) (o.alloc hp) (by rw [Rep];exact ⟨p,vs,rfl,SqT.of (EX (o.free hp) Ar),r.same (Ext.alloc hp).hid⟩)
theorem Dy {H:Hp} {p:Addr} {vs:List V} (o:GOk X.K H G) (hp:H p=none) (r:RepL X.K (hid H G) ds vs):Po X H G (fun d' G'=>d'=.lst ds/\G'=G) (.ref p) (upd H p (.lst vs)):=
 po1 (Ext.alloc hp) (o.alloc hp) (by rw [Rep];exact ⟨p,vs,rfl,EX (o.free hp) Ar,r.same (Ext.alloc hp).hid⟩)
theorem CD {x1} (h:PXs X ρ G es ds) (hz:ds.length≤1000:=by first|decide|(simp;done)):PX X ρ G (.Tuple es x1 pos) (.tup ds):=
 Ba (bu Kd) fun σ H S=>⟨ρ,G,_,h,S,fun vs H1 ⟨_,_,e1,o1,r1,q1,Bp⟩=>by
  subst q1;subst Bp
  exact ⟨by rw [r1.length];exact Nat.le_of_lt (Ik hz),fun p hp=>Po.trans e1 (Jn o1 hp r1)⟩⟩
theorem CA (h:PXs X ρ G es ds) (hz:ds.length≤1000:=by first|decide|(simp;done)):PX X ρ G (.List es pos) (.lst ds):=
 Ba (We Kd) fun σ H S=>⟨ρ,G,_,h,S,fun vs H1 ⟨_,_,e1,o1,r1,q1,Bp⟩=>by
  subst q1;subst Bp
  exact ⟨by rw [r1.length];exact Nat.le_of_lt (Ik hz),fun p hp=>Po.trans e1 (Dy o1 hp r1)⟩⟩
theorem Gy (ha:PX X ρ G a (.lst l)) (hb:PX X ρ G b (.lst m)) (hz:l.length+m.length≤sizeLine):PX X ρ G (.BinOp a .Add b pos) (.lst (l++m)):=
 JI Ut ha hb fun H x y Q o hx hy k=>by
  rw [Rep]at hx hy
  obtain ⟨p,vs,e1,h1,r1⟩:=hx
  obtain ⟨q,us,e2,h2,r2⟩:=hy
  exact ⟨p,q,vs,us,e1,e2,AJ _ _ h1,AJ _ _ h2,by rw [r1.length,r2.length];exact hz,fun t ht=>k _ _ (Dy o ht (r1.append r2))⟩
theorem Rl {K:PySem.W.Frag} {H:Hp} {vs:List V} (r:RepL K H l vs) (h:atI l i=some d):∃v,atI vs i=some v/\Rep K H d v:=by
 unfold atI at h ⊢
 rw [r.length]
 cases q:ixN l.length i with
 |none=>rw [q]at h;cases h
 |some j=>rw [q]at h;exact r.get h
theorem Am (ha:PX X ρ G a (.tup l)) (hb:PX X ρ G b (.int i)) (hi:atI l i=some d) (hs:Fq b:=by intro _ _;rfl):PX X ρ G (.Subscript a b pos) d:=
 Ba (Ri ak Ak Ak hs) fun σ H S=>⟨ρ,G,_,ha,S,fun x H1 ⟨_,_,e1,o1,r1,q1,Bp⟩=>by
  subst q1;subst Bp
  refine ⟨ρ,_,_,hb,S.ext e1 o1,fun y H2 ⟨_,_,e2,o2,r2,q2,Ek⟩=>?_⟩
  subst q2;subst Ek
  have r1:=r1.same e2.hid
  rw [Rep]at r1
  obtain ⟨p,vs,e3,h3,r3⟩:=r1
  obtain ⟨v,h4,r4⟩:=Rl r3 hi
  exact ⟨p,vs,i,v,e3,r2,Af AJ h3,h4,Po.trans (e1.trans e2) (BL o2 r4)⟩⟩
theorem IW (ha:PX X ρ G a (.lst l)) (hb:PX X ρ G b (.int i)) (hi:atI l i=some d) (hs:Fq b:=by intro _ _;rfl):PX X ρ G (.Subscript a b pos) d:=
 Ba (Ri SO Ak Ak hs) fun σ H S=>⟨ρ,G,_,ha,S,fun x H1 ⟨_,_,e1,o1,r1,q1,Bp⟩=>by
  subst q1;subst Bp
  refine ⟨ρ,_,_,hb,S.ext e1 o1,fun y H2 ⟨_,_,e2,o2,r2,q2,Ek⟩=>?_⟩
  subst q2;subst Ek
  have r1:=r1.same e2.hid
  rw [Rep]at r1
  obtain ⟨p,vs,e3,h3,r3⟩:=r1
  obtain ⟨v,h4,r4⟩:=Rl r3 hi
  exact ⟨p,vs,i,v,e3,r2,SqL.of (AJ _ _ h3),h4,Po.trans (e1.trans e2) (BL o2 r4)⟩⟩
theorem cD {ns:List Int} {z:Int} (ha:PX X ρ G a (.scr ns)) (hb:PX X ρ G b (.int i)) (hi:atI ns i=some z) (hs:Fq b:=by intro _ _;rfl):PX X ρ G (.Subscript a b pos) (.int z):=
 Ba (Ri SO Ak Ak hs) fun σ H S=>⟨ρ,G,_,ha,S,fun x H1 ⟨_,_,e1,o1,r1,q1,Bp⟩=>by
  subst q1;subst Bp
  refine ⟨ρ,_,_,hb,S.ext e1 o1,fun y H2 ⟨_,_,e2,o2,r2,q2,Ek⟩=>?_⟩
  subst q2;subst Ek
  have r1:=r1.same e2.hid
  rw [Rep]at r1
  obtain ⟨p,e3,h3⟩:=r1
  refine ⟨p,_,i,V.int z,e3,r2,Same.seq AJ h3,?_,Po.trans (e1.trans e2) (BL o2 rfl)⟩
  unfold atI at hi ⊢
  rw [List.length_map]
  cases q:ixN ns.length i with
  |none=>rw [q]at hi;cases hi
  |some j=>rw [q]at hi;show (ns.map V.int)[j]?=_;rw [List.getElem?_map,show ns[j]?=some z from hi];rfl⟩
theorem Em {f:Str} {id:String} {r:List V->Hp->VK->Prop} {p:Pos} (hc:C2 X (.builtin id) r) (hg:Gl X f) (hm:X.mg f=none) (hv:bootBuiltins f=some (.builtin id)) (ha:PX X ρ G a d1)
  (hr:∀(H:Hp) (x:V) (Q:VK),GOk X.K H G->Rep X.K (hid H G) d1 x->(∀v H',Po X H G (fun d' G'=>d'=d/\G'=G) v H'->Q v H')->r [x] H Q)
  (hn:f≠"__name__":=by decide) (E8:(f==("__debug__":Str))=false:=by decide) (he:starEach [a] X.env=(false,eval a X.env)::starEach [] X.env:=by rfl):PX X ρ G (.Call (.Name f p) [a] [] pos) d:=
 Ba (HL hc hg hm hv (B3 Ak D3 he) hn E8 he rfl) fun σ H S=>⟨ρ,G,_,ha,S,fun x H1 ⟨_,_,e1,o1,r1,q1,Bp⟩=>by
  subst q1;subst Bp
  exact hr H1 x _ o1 r1 fun v H' z=>Po.trans e1 z⟩
theorem Fv {f:Str} {T:String} {r:List V->Hp->VK->Prop} {p:Pos} (hc:C2 X (.type T) r) (hg:Gl X f) (hm:X.mg f=none) (hv:bootBuiltins f=some (.type T)) (ha:PX X ρ G a d1)
  (hr:∀(H:Hp) (x:V) (Q:VK),GOk X.K H G->Rep X.K (hid H G) d1 x->(∀v H',Po X H G (fun d' G'=>d'=d/\G'=G) v H'->Q v H')->r [x] H Q)
  (hn:f≠"__name__":=by decide) (E8:(f==("__debug__":Str))=false:=by decide) (he:starEach [a] X.env=(false,eval a X.env)::starEach [] X.env:=by rfl):PX X ρ G (.Call (.Name f p) [a] [] pos) d:=
 Ba (TQ hc hg hm hv (B3 Ak D3 he) hn E8 he rfl) fun σ H S=>⟨ρ,G,_,ha,S,fun x H1 ⟨_,_,e1,o1,r1,q1,Bp⟩=>by
  subst q1;subst Bp
  exact hr H1 x _ o1 r1 fun v H' z=>Po.trans e1 z⟩
def Qp (G:Gs):Dat->Option Nat
 |.tup l=>some l.length
 |.lst l=>some l.length
 |.scr ns=>some ns.length
 |.fn p=>match G p with|some (.lst l)=>some l.length|_=>none
 |_=>none
theorem XJ {K:PySem.W.Frag} {H:Hp} {v:V} {n:Nat} (h:Qp G d=some n) (o:GOk K H G) (r:Rep K (hid H G) d v):∃p ys,v=.ref p/\(SqL K H p ys\/SqT K H p ys)/\ys.length=n:=by
 cases d<;>simp only [Qp,Option.some.injEq,reduceCtorEq]at h<;>rw [Rep]at r
 ·split at h
  ·rename_i p l hG
   cases h
   obtain ⟨vs,h3,r3⟩:=o _ _ hG
   exact ⟨_,vs,r,.inl (SqL.of h3),r3.length⟩
  ·cases h
 ·obtain ⟨p,e,q⟩:=r
  exact ⟨p,_,e,.inl (Same.seq AJ q),by rw [List.length_map];exact h⟩
 ·obtain ⟨p,vs,e,q,r⟩:=r
  exact ⟨p,vs,e,.inr (Af AJ q),by rw [r.length];exact h⟩
 ·obtain ⟨p,vs,e,q,r⟩:=r
  exact ⟨p,vs,e,.inl (SqL.of (AJ _ _ q)),by rw [r.length];exact h⟩
theorem Ec {n:Nat} {p:Pos} (hg:Gl X "len") (hm:X.mg "len"=none) (ha:PX X ρ G a d1) (h:Qp G d1=some n) (he:starEach [a] X.env=(false,eval a X.env)::starEach [] X.env:=by rfl):PX X ρ G (.Call (.Name "len" p) [a] [] pos) (.int n):=
 Em Nb hg hm PySem.boot_len ha (fun H x Q o r k=>by
  obtain ⟨q,ys,e,hq,hl⟩:=XJ h o r
  exact ⟨q,ys,by rw [e],hq,k _ _ (BL o (by rw [hl];rfl))⟩) (he:=he)
theorem EL {p:Pos} (hg:Gl X "tuple") (hm:X.mg "tuple"=none) (hv:bootBuiltins "tuple"=some (.type "tuple")) (ha:PX X ρ G a (.lst l)) (he:starEach [a] X.env=(false,eval a X.env)::starEach [] X.env:=by rfl):PX X ρ G (.Call (.Name "tuple" p) [a] [] pos) (.tup l):=
 Fv Ge hg hm hv ha (fun H x Q o r k=>by
  rw [Rep]at r
  obtain ⟨q,vs,e,h1,r1⟩:=r
  exact ⟨q,vs,by rw [e],.inl ⟨SqL.of (AJ _ _ h1),fun t ht=>k _ _ (Jn o ht r1)⟩⟩) (he:=he)
theorem PW {p:Pos} (hg:Gl X "list") (hm:X.mg "list"=none) (hv:bootBuiltins "list"=some (.type "list")) (ha:PX X ρ G a (.tup l)) (he:starEach [a] X.env=(false,eval a X.env)::starEach [] X.env:=by rfl):PX X ρ G (.Call (.Name "list" p) [a] [] pos) (.lst l):=
 Fv Nn hg hm hv ha (fun H x Q o r k=>by
  rw [Rep]at r
  obtain ⟨q,vs,e,h1,r1⟩:=r
  exact ⟨q,vs,by rw [e],.inr (Af AJ h1),fun t ht=>k _ _ (Dy o ht r1)⟩) (he:=he)
end
structure DE where
 nx:Rho->Gs->Prop
 rt:Dat->Gs->Prop
 bk:Rho->Gs->Prop:=fun _ _=>False
 ct:Rho->Gs->Prop:=fun _ _=>False
def lft (X:Cx) (H:Hp) (G:Gs) (q:Rho->Gs->Prop):St->Hp->Prop:=fun σ' H'=>∃ρ' G',Ext H G H' G'/\Stt X H' σ' ρ' G'/\q ρ' G'
def En (X:Cx) (H:Hp) (G:Gs) (D:DE):Ends where
 nx:=lft X H G D.nx
 rt:=Po X H G D.rt
 bk:=lft X H G D.bk
 ct:=lft X H G D.ct
def WS (X:Cx) (ρ:Rho) (G:Gs) (st:Stmt) (D:DE):Prop:=
 ∀(pins:List (Addr×Obj)) (s:Shared) (σ:St) (H:Hp),Inv X pins σ H s->Stt X H σ ρ G->wpAny (model X.prog X.w) X.A (exec st X.env) (SP X pins (En X H G D)) X.xe s
def WSs (X:Cx) (ρ:Rho) (G:Gs) (st:List Stmt) (D:DE):Prop:=
 ∀(pins:List (Addr×Obj)) (s:Shared) (σ:St) (H:Hp),Inv X pins σ H s->Stt X H σ ρ G->wpAny (model X.prog X.w) X.A (execs st X.env) (SP X pins (En X H G D)) X.xe s
theorem SP.le {X:Cx} {pins:List (Addr×Obj)} {D D':Ends} {f:Flow} {s:Shared} (h:SP X pins D f s) (h1:∀σ H,D.nx σ H->D'.nx σ H) (h2:∀v H,D.rt v H->D'.rt v H) (h3:∀σ H,D.bk σ H->D'.bk σ H) (h4:∀σ H,D.ct σ H->D'.ct σ H):SP X pins D' f s:=by
 cases f with
 |next=>obtain ⟨σ,H,I,q⟩:=h;exact ⟨σ,H,I,h1 _ _ q⟩
 |brk=>obtain ⟨σ,H,I,q⟩:=h;exact ⟨σ,H,I,h3 _ _ q⟩
 |cont=>obtain ⟨σ,H,I,q⟩:=h;exact ⟨σ,H,I,h4 _ _ q⟩
 |ret u=>obtain ⟨v,σ,H,I,r,q⟩:=h;exact ⟨v,σ,H,I,r,h2 _ _ q⟩
theorem Fp {X:Cx} {H H1:Hp} {G G1:Gs} {q:Rho->Gs->Prop} (e:Ext H G H1 G1) {σ:St} {H':Hp} (h:lft X H1 G1 q σ H'):lft X H G q σ H':=let ⟨ρ',G',e',S,q⟩:=h;⟨ρ',G',e.trans e',S,q⟩
theorem LK {X:Cx} {H:Hp} {G:Gs} {q q':Rho->Gs->Prop} (k:∀ρ G,q ρ G->q' ρ G) {σ:St} {H':Hp} (h:lft X H G q σ H'):lft X H G q' σ H':=let ⟨ρ',G',e',S,q⟩:=h;⟨ρ',G',e',S,k _ _ q⟩
theorem SP.trans {X:Cx} {pins:List (Addr×Obj)} {D:DE} {f:Flow} {s:Shared} {H H1:Hp} {G G1:Gs} (e:Ext H G H1 G1) (h:SP X pins (En X H1 G1 D) f s):SP X pins (En X H G D) f s:=
 SP.le h (fun _ _ q=>Fp e q) (fun _ _ q=>Po.trans e q) (fun _ _ q=>Fp e q) (fun _ _ q=>Fp e q)
section
variable {X:Cx}{ρ:Rho}{G:Gs}{e a b c:Expr}{es:List Expr}{d d' d1 d2:Dat}{ds l m:List Dat}{pos:Pos}{D:DE}{rest body:List Stmt}{st:Stmt}
theorem AQ (h:D.nx ρ G):WSs X ρ G [] D:=fun pins s σ H I S=>wpAny_execs_nil ⟨σ,H,I,ρ,G,Ext.refl,S,h⟩
theorem Bt (h:WS X ρ G st { D with nx:=fun ρ' G'=>WSs X ρ' G' rest D }):WSs X ρ G (st::rest) D:=by
 intro pins s σ H I S
 refine wpAny_execs_cons (thn (h pins s σ H I S) fun f s1 q=>?_)
 cases f with
 |next=>
  obtain ⟨σ',H',I',ρ',G',e',S',q⟩:=q
  exact thn (q pins s1 σ' H' I' S') fun _ _ z=>SP.trans e' z
 |ret v=>exact q
 |brk=>exact q
 |cont=>exact q
theorem OM {t:TS} (h:PS X st t) (hq:∀σ H,Stt X H σ ρ G->t (En X H G D) σ H):WS X ρ G st D:=fun pins s σ H I S=>h pins s σ H _ I (hq σ H S)
def dN (X:Cx) (st:List Stmt):TS:=fun D' σ H=>∃ρ G D,WSs X ρ G st D/\Stt X H σ ρ G/\(∀σ' H',(En X H G D).nx σ' H'->D'.nx σ' H')/\(∀v H',(En X H G D).rt v H'->D'.rt v H')/\(∀σ' H',(En X H G D).bk σ' H'->D'.bk σ' H')/\(∀σ' H',(En X H G D).ct σ' H'->D'.ct σ' H')
theorem ai {st:List Stmt}:PSs X st (dN X st):=fun pins s σ H D' I ⟨ρ,G,D,h,S,h1,h2,h3,h4⟩=>thn (h pins s σ H I S) fun _ _ q=>SP.le q h1 h2 h3 h4
theorem WSs.mono {st:List Stmt} {D':DE} (h:WSs X ρ G st D) (h1:∀ρ G,D.nx ρ G->D'.nx ρ G) (h2:∀d G,D.rt d G->D'.rt d G) (h3:∀ρ G,D.bk ρ G->D'.bk ρ G) (h4:∀ρ G,D.ct ρ G->D'.ct ρ G):WSs X ρ G st D':=fun pins s σ H I S=>
 thn (h pins s σ H I S) fun _ _ q=>SP.le q (fun _ _ z=>LK h1 z) (fun _ _ z=>Po.mono z h2) (fun _ _ z=>LK h3 z) (fun _ _ z=>LK h4 z)
theorem Cg (h:WE X ρ G e D.rt):WSs X ρ G (.Return (some e) pos::rest) D:=Bt fun pins s σ H I S=>
 wpAny_Return_some (thn (h pins s σ H I S) fun v s1 ⟨x,H1,I1,r1,q1⟩=>⟨x,σ,H1,I1,r1,q1⟩)
theorem AW (h:PX X ρ G e d) (q:D.rt d G):WSs X ρ G (.Return (some e) pos::rest) D:=Cg (h.we q)
theorem Cd (i:Nat) {x:Str} {pos':Pos} (hN:X.N.Nodup) (h:WE X ρ G e fun d G'=>WSs X (ρ.set i (some d)) G' rest D) (hi:X.N[i]?=some x:=by rfl) (hx:Loc X.env.scope x:=by first|exact Or.inl rfl|exact Or.inr rfl)
  (hs:swapsWith e (some (.Name x pos')) pos.line X.env=pure false:=by rfl) (hf:X.fn x=true\/X.env.scope.names.lookup x=some .local:=by first|exact .inl rfl|exact .inr rfl|assumption):WSs X ρ G (.Assign [.Name x pos'] e pos::rest) D:=
 Bt (OM (QI (i:=i) hN hi hx Ak hs hf) fun σ H S=>⟨ρ,G,_,h,S,fun v H' ⟨d,G',e',o',r',q'⟩=>⟨_,G',e',(S.ext e' o').set r',q'⟩⟩)
theorem AX (i:Nat) {x:Str} {pos':Pos} (hN:X.N.Nodup) (h:PX X ρ G e d) (q:WSs X (ρ.set i (some d)) G rest D) (hi:X.N[i]?=some x:=by rfl) (hx:Loc X.env.scope x:=by first|exact Or.inl rfl|exact Or.inr rfl)
  (hs:swapsWith e (some (.Name x pos')) pos.line X.env=pure false:=by rfl) (hf:X.fn x=true\/X.env.scope.names.lookup x=some .local:=by first|exact .inl rfl|exact .inr rfl|assumption):WSs X ρ G (.Assign [.Name x pos'] e pos::rest) D:=
 Cd i hN (h.we q) hi hx hs hf
def PGD (X:Cx) (tg:Expr) (f:Dat->Rho->Option Rho):Prop:=
 ∀(pins:List (Addr×Obj)) (s:Shared) (σ:St) (H:Hp) (v:V) (u:Value) (ρ ρ':Rho) (G:Gs) (d:Dat),Inv X pins σ H s->RelV v u->Stt X H σ ρ G->Rep X.K (hid H G) d v->f d ρ=some ρ' →
  wpAny (model X.prog X.w) X.A (assign tg X.env u) (fun _ s'=>∃σ' H',Inv X pins σ' H' s'/\Ext H G H' G/\Stt X H' σ' ρ' G) X.xe s
def CT (i:Nat):Dat->Rho->Option Rho:=fun d ρ=>some (ρ.set i (some d))
def Fd (i j:Nat):Dat->Rho->Option Rho:=fun d ρ=>match d with
 |.tup [a,b]=>some ((ρ.set i (some a)).set j (some b))
 |_=>none
theorem Aj (i:Nat) {x:Str} (hN:X.N.Nodup) (hi:X.N[i]?=some x:=by rfl) (hx:Loc X.env.scope x:=by first|exact Or.inl rfl|exact Or.inr rfl) (hf:X.fn x=true\/X.env.scope.names.lookup x=some .local:=by first|exact .inl rfl|exact .inr rfl|assumption):PGD X (.Name x pos) (CT i):=by
 intro pins s σ H v u ρ ρ' G d I r S q e
 cases e
 exact NP hN hi hx hf pins s σ H v u (fun σ' H'=>Ext H G H' G/\Stt X H' σ' _ G) I r ⟨Ext.refl,S.set q⟩
theorem Dk (i j:Nat) {x y:Str} {px py:Pos} {k:Nat} (hc:X.calm=true) (hN:X.N.Nodup) (hi:X.N[i]?=some x:=by rfl) (hj:X.N[j]?=some y:=by rfl) (hx:Loc X.env.scope x:=by first|exact Or.inl rfl|exact Or.inr rfl) (hy:Loc X.env.scope y:=by first|exact Or.inl rfl|exact Or.inr rfl)
  (uS:X.fn x=true\/X.env.scope.names.lookup x=some .local:=by first|exact .inl rfl|exact .inr rfl|assumption) (xm:X.fn y=true\/X.env.scope.names.lookup y=some .local:=by first|exact .inl rfl|exact .inr rfl|assumption):PGD X (.Tuple [.Name x px,.Name y py] k pos) (Fd i j):=by
 intro pins s σ H v u ρ ρ' G d I r S q e
 cases d<;>simp only [Fd,reduceCtorEq]at e
 rename_i l
 match l,e,q with
 |[a,b],e,q=>
  simp only [Option.some.injEq]at e
  subst e
  rw [Rep]at q
  obtain ⟨p,vs,rfl,h1,h2⟩:=q
  rw [RepL]at h2
  obtain ⟨v1,r1,rfl,q1,h2⟩:=h2
  rw [RepL]at h2
  obtain ⟨v2,r2,rfl,q2,h2⟩:=h2
  rw [RepL]at h2
  subst h2
  exact cG (n:=2) hc (OL (NP hN hi hx uS) (OL (NP hN hj hy xm) Xn)) rfl rfl pins s σ H (.ref p) u (fun σ' H'=>Ext H G H' G/\Stt X H' σ' _ G) I r
   ⟨p,[v1,v2],rfl,Af AJ h1,rfl,v1,[v2],rfl,v2,[],rfl,rfl,Ext.refl,(S.set q1).set q2⟩
 |[],e,_=>simp at e
 |[_],e,_=>simp at e
 |_::_::_::_,e,_=>simp at e
theorem QB {tg:Expr} {f:Dat->Rho->Option Rho} {ρ':Rho} (hg:PGD X tg f) (h:PX X ρ G e d) (hf:f d ρ=some ρ') (q:WSs X ρ' G rest D) (hs:swapsWithSole [tg] e pos.line X.env=pure false:=by rfl) (hw:swappedStores [tg] e X.env=pure none:=by rfl)
  (h1:(assignEach [tg] X.env).map (·.2)=[assign tg X.env]:=by rfl):WSs X ρ G (.Assign [tg] e pos::rest) D:=Bt fun pins s σ H I S=>by
 refine wpAny_Assign_stores (thn (h pins s σ H I S) fun v s1 ⟨x,H1,I1,r1,_,_,e1,o1,rx,q1,Bp⟩=>?_) hs hw
 subst q1;subst Bp
 rw [h1]
 exact thn (hg pins s1 σ H1 x v ρ ρ' _ _ I1 r1 (S.ext e1 o1) rx hf) fun _ s2 ⟨σ2,H2,I2,e2,S2⟩=>⟨σ2,H2,I2,ρ',_,e1.trans e2,S2,q⟩
theorem W6 {x y:List Stmt} (hc:WT X ρ G c fun p G'=>(p=true->WSs X ρ G' x { D with nx:=fun ρ' G'=>WSs X ρ' G' rest D })/\(p=false->WSs X ρ G' y { D with nx:=fun ρ' G'=>WSs X ρ' G' rest D })):WSs X ρ G (.If c x y pos::rest) D:=Bt fun pins s σ H I S=>by
 refine wpAny_If (thn (hc pins s σ H I S) fun p s1 ⟨H1,I1,G1,e1,o1,q1⟩=>?_)
 cases p with
 |true=>exact thn (q1.1 rfl pins s1 σ H1 I1 (S.ext e1 o1)) fun _ _ z=>SP.trans e1 z
 |false=>exact thn (q1.2 rfl pins s1 σ H1 I1 (S.ext e1 o1)) fun _ _ z=>SP.trans e1 z
theorem BY {x y:List Stmt} {p:Bool} (hc:PXT X ρ G c p) (ht:p=true->WSs X ρ G x { D with nx:=fun ρ' G'=>WSs X ρ' G' rest D }) (hf:p=false->WSs X ρ G y { D with nx:=fun ρ' G'=>WSs X ρ' G' rest D }):WSs X ρ G (.If c x y pos::rest) D:=
 W6 (K7 hc ⟨ht,hf⟩)
def Wk (K:PySem.W.Frag) (J:It) (H:Hp) (G:Gs) (l:List Dat):Prop:=
 ∀H' G',Ext H G H' G'->(∀(i:Nat) d,l[i]?=some d->J.go i H'/\∀x Ui,J.yld i H' x Ui->Ext H' G' Ui G'/\(GOk K H' G'->GOk K Ui G')/\(GOk K H' G'->Rep K (hid Ui G') d x))/\J.stop l.length H'
def WI (X:Cx) (ρ:Rho) (G:Gs) (tg iter:Expr) (Q:List Dat->Gs->Prop):Prop:=
 ∀(pins:List (Addr×Obj)) (s:Shared) (σ:St) (H:Hp),Inv X pins σ H s->Stt X H σ ρ G →
  wpAny (model X.prog X.w) X.A (eval iter X.env) (fun v s1=>wpAny (model X.prog X.w) X.A (pyIter v) (PIE X pins σ tg fun J H'=>∃l G',Ext H G H' G'/\GOk X.K H' G'/\Wk X.K J H' G' l/\Q l G') X.xe s1) X.xe s
theorem YH {K:PySem.W.Frag} {H:Hp} {p:Addr} {vs:List V} (h:hid H G p=some (.lst vs)) (r:RepL K (hid H G) l vs):Wk K (Itl K p) H G l:=by
 intro H' G' e
 have h':=AJ _ _ (e.hid _ _ h)
 refine ⟨fun i d hd=>?_,vs,SqL.of h',by rw [r.length];exact Nat.le_refl _⟩
 obtain ⟨v,hv,rv⟩:=r.get hd
 refine ⟨⟨vs,v,SqL.of h',hv⟩,fun x Ui ⟨e1,y⟩=>?_⟩
 subst e1
 have:=y vs (SqL.of h')
 rw [hv]at this
 cases this
 exact ⟨Ext.refl,fun o=>o,fun _=>rv.same e.hid⟩
theorem aL {K:PySem.W.Frag} {H:Hp} {p:Addr} {vs:List V} (h:SqT K (hid H G) p vs) (r:RepL K (hid H G) l vs):Wk K (Itt K p) H G l:=by
 intro H' G' e
 have h':=Af AJ (Af e.hid h)
 refine ⟨fun i d hd=>?_,vs,h',by rw [r.length];exact Nat.le_refl _⟩
 obtain ⟨v,hv,rv⟩:=r.get hd
 refine ⟨⟨vs,v,h',hv⟩,fun x Ui ⟨e1,y⟩=>?_⟩
 subst e1
 have:=y vs h'
 rw [hv]at this
 cases this
 exact ⟨Ext.refl,fun o=>o,fun _=>rv.same e.hid⟩
def A8 (lo:Int) (n:Nat):List Dat:=(List.range n).map fun i=>.int (lo+(i:Nat))
theorem bN {K:PySem.W.Frag} {H:Hp} {lo:Int} {n:Nat}:Wk K (Itr lo n) H G (A8 lo n):=by
 intro H' G' e
 refine ⟨fun i d hd=>?_,by show n≤(A8 lo n).length;simp [A8]⟩
 have hi:i<n:=by
  have:=(List.getElem?_eq_some_iff.mp hd).1
  simpa [A8]using this
 refine ⟨hi,fun x Ui ⟨e1,e2⟩=>?_⟩
 subst e1;subst e2
 refine ⟨Ext.refl,fun o=>o,fun _=>?_⟩
 have:(A8 lo n)[i]?=some (.int (lo+i)):=by simp [A8,hi]
 rw [this]at hd
 cases hd
 rfl
theorem HY {tg iter:Expr} {Q:List Dat->Gs->Prop} (h:WE X ρ G iter fun d G'=>∃l,d=.lst l/\Q l G'):WI X ρ G tg iter Q:=fun pins s σ H I S=>
 Ym Ak pins s σ H _ I ⟨ρ,G,_,h,S,fun x H1 ⟨d,G',e1,o1,r1,l,q1,q⟩=>by
  subst q1
  rw [Rep]at r1
  obtain ⟨p,vs,e2,h2,r2⟩:=r1
  exact ⟨p,e2,⟨vs,SqL.of (AJ _ _ h2)⟩,l,G',e1,o1,YH h2 r2,q⟩⟩
theorem X8 {tg iter:Expr} {Q:List Dat->Gs->Prop} (h:WE X ρ G iter fun d G'=>∃l,d=.tup l/\Q l G'):WI X ρ G tg iter Q:=fun pins s σ H I S=>
 ba Ak pins s σ H _ I ⟨ρ,G,_,h,S,fun x H1 ⟨d,G',e1,o1,r1,l,q1,q⟩=>by
  subst q1
  rw [Rep]at r1
  obtain ⟨p,vs,e2,h2,r2⟩:=r1
  exact ⟨p,e2,⟨vs,Af AJ h2⟩,l,G',e1,o1,aL h2 r2,q⟩⟩
theorem RK {tg iter:Expr} {Q:List Dat->Gs->Prop} (h:PX X ρ G iter (.lst l)) (q:Q l G):WI X ρ G tg iter Q:=HY (h.we ⟨l,rfl,q⟩)
theorem Im {tg iter:Expr} {Q:List Dat->Gs->Prop} (h:PX X ρ G iter (.tup l)) (q:Q l G):WI X ρ G tg iter Q:=X8 (h.we ⟨l,rfl,q⟩)
theorem Cw {tg:Expr} {Q:List Dat->Gs->Prop} {n:Int} {p:Pos} (hg:Gl X "range") (hm:X.mg "range"=none) (ha:PX X ρ G a (.int n)) (h1:-(2 ^ 62)≤n) (h2:n<2 ^ 62) (q:Q (A8 0 n.toNat) G) (hs:starEach [a] X.env=[(false,eval a X.env)]:=by rfl):WI X ρ G tg (.Call (.Name "range" p) [a] [] pos) Q:=fun pins s σ H I S=>
 Tq hg hm (B3 Ak D3 hs) hs pins s σ H _ I ⟨ρ,G,_,ha,S,fun x H1 ⟨_,_,e1,o1,r1,q1,Bp⟩=>by
  subst q1;subst Bp
  cases (show x=V.int n from r1)
  exact ⟨n,rfl,h1,h2,_,_,e1,o1,bN,q⟩⟩
theorem Ce {tg iter:Expr} {f:Dat->Rho->Option Rho} (Pv:Nat->Rho->Gs->Prop) (hp:PassesOwn (model X.prog X.w) X.A X.env X.xe) (hc:X.calm=true) (hi:WI X ρ G tg iter fun l' G'=>l'=l/\Pv 0 ρ G') (hg:PGD X tg f)
  (hs:∀(i:Nat) d ρ' G',l[i]?=some d->Pv i ρ' G'->∃ρ'',f d ρ'=some ρ''/\WSs X ρ'' G' body { nx:=Pv (i+1),ct:=Pv (i+1),bk:=fun ρ' G'=>WSs X ρ' G' rest D,rt:=D.rt })
  (hd:∀ρ' G',Pv l.length ρ' G'->WSs X ρ' G' rest D) (WW:∀x,foldedSetIterable iter X.env x=pure x:=by intro _;rfl):WSs X ρ G (.For tg iter body [] pos::rest) D:=Bt fun pins s σ H I S=>by
 refine wpAny_For (thn (hi pins s σ H I S) fun v s1 h1=>thn h1 fun gC s2 h2=>?_) WW
 obtain ⟨it,fp,tn,J,H2,e,I2,T,DC,f2,l',G2,e2,o2,wk,q,p0⟩:=h2
 subst e;subst q
 have QR:∀{H':Hp},(∀b∈fp,H' b=none)->∀b∈fp,IP X pins H' b:=fun hn b hb=>⟨hn b hb,(f2 b hb).2⟩
 refine codeAny_forLoop_any (fun n s'=>∃i σ' H' ρ' G',i+n=l'.length/\Inv X pins σ' H' s'/\tn i s'.heap/\(∀b∈fp,H' b=none)/\Ext H2 G2 H' G'/\Stt X H' σ' ρ' G'/\Pv i ρ' G') ?_ l'.length
  ⟨0,σ,H2,ρ,G2,Nat.zero_add _,I2,DC,fun b hb=>(f2 b hb).1,Ext.refl,S.ext e2 o2,p0⟩
 rintro n s3 ⟨i,σ3,H3,ρ3,G3,hn,I3,GN,qz,e3,S3,p3⟩
 obtain ⟨aw,j3⟩:=wk H3 G3 e3
 cases n with
 |zero=>
  have az:i=l'.length:=by lia
  subst az
  refine wpAny_passesOwn hp (thn (T.done X rfl rfl rfl hc _ pins s3 σ3 H3 X.xe I3 (QR qz) GN j3) fun r s4 ⟨hr,I4⟩=>?_)
  subst hr
  exact wpAny_execs_nil ⟨σ3,H3,I4,ρ3,G3,e2.trans e3,S3,hd ρ3 G3 p3⟩
 |succ n=>
  have A4:i<l'.length:=by lia
  obtain ⟨go,aw⟩:=aw i _ (List.getElem?_eq_getElem A4)
  obtain ⟨ρ4,ye,w4⟩:=hs i _ ρ3 G3 (List.getElem?_eq_getElem A4) p3
  refine wpAny_passesOwn hp (thn (T.item X rfl rfl rfl hc i pins s3 σ3 H3 X.xe I3 (QR qz) GN go) fun r s4 ⟨u,hr,h4⟩=>?_)
  subst hr
  refine wpAny_passesOwn hp (thn h4 fun _ s5 ⟨x,H5,I5,r5,y5,Zp,iK⟩=>?_)
  obtain ⟨e5,o5,gA⟩:=aw x H5 y5
  have nS:=gA S3.own
  have uu:=I5.pinned (QR iK) (T.obj _ _ Zp)
  refine wpAny_passesOwn hp (thn (hg _ s5 σ3 H5 x u ρ3 ρ4 G3 _ uu r5 (S3.ext e5 (o5 S3.own)) nS ye) fun _ s6 ⟨σ6,H6,I6,e6,S6⟩=>?_)
  refine wpAny_passesOwn hp (thn (w4 _ s6 σ6 H6 I6 S6) fun f s7 q7=>?_)
  have again:∀{σ7:St} {H7:Hp},Inv X (pins++Ml fp s5.heap) σ7 H7 s7->lft X H6 G3 (Pv (i+1)) σ7 H7->∃m,m<n+1/\∃i σ' H' ρ' G',i+m=l'.length/\Inv X pins σ' H' s7/\tn i s7.heap/\(∀b∈fp,H' b=none)/\Ext H2 G2 H' G'/\Stt X H' σ' ρ' G'/\Pv i ρ' G':=fun {σ7 H7} I7 ⟨ρ7,G7,e7,S7,p7⟩=>by
   refine ⟨n,Nat.lt_succ_self _,i+1,σ7,H7,ρ7,G7,by lia,I7.unpinned,T.keep _ _ _ Zp fun b hb o e=>(I7.pin (b,o) (List.mem_append_right _ (List.mem_append_right _ (ES hb e)))).1,fun b hb=>?_,(e3.trans (e5.trans (e6.trans e7))),S7,p7⟩
   obtain ⟨o,e,d⟩:=T.obj _ _ Zp b hb
   exact (I7.pin (b,o) (List.mem_append_right _ (List.mem_append_right _ (ES hb e)))).2.1
  have whole:Ext H G H6 G3:=e2.trans (e3.trans (e5.trans e6))
  cases f with
  |next=>obtain ⟨σ7,H7,I7,n7⟩:=q7;exact again I7 n7
  |cont=>obtain ⟨σ7,H7,I7,n7⟩:=q7;exact again I7 n7
  |brk=>obtain ⟨σ7,H7,I7,q7⟩:=q7;exact ⟨σ7,H7,I7.unpinned,Fp whole q7⟩
  |ret v=>obtain ⟨x7,σ7,H7,I7,r7,q7⟩:=q7;exact ⟨x7,σ7,H7,I7.unpinned,r7,Po.trans whole q7⟩
theorem SY {H:Hp} {p:Addr} {vs:List V} (o:GOk X.K H G) (hp:H p=none) (r:RepL X.K (hid H G) ds vs):Ext H G (upd H p (.lst vs)) (put G p (.lst ds))/\GOk X.K (upd H p (.lst vs)) (put G p (.lst ds)):=by
 have hG:=o.free hp
 have E:Ext H G (upd H p (.lst vs)) (put G p (.lst ds)):=⟨fun b u e _=>by rw [AN (AK e hp)];exact e,fun b h=>by
  by_cases hb:b=p
  ·subst hb;exact .inr hp
  ·rw [Cj hb]at h;exact .inl h⟩
 refine ⟨E,fun b u q=>?_⟩
 by_cases hb:b=p
 ·subst hb
  rw [AL]at q
  cases q
  exact ⟨vs,Ar,r.same E.hid⟩
 ·rw [Cj hb]at q
  exact (o b u q).ext E.hid (AN hb)
theorem Nm {H:Hp} {p:Addr} {l:List Dat} {vs:List V} (o:GOk X.K H G) (hG:G p=some (.lst l)) (r:RepL X.K (hid H G) ds vs):Ext H G (upd H p (.lst vs)) (put G p (.lst ds))/\GOk X.K (upd H p (.lst vs)) (put G p (.lst ds)):=by
 have E:Ext H G (upd H p (.lst vs)) (put G p (.lst ds)):=⟨fun b u e h=>by
  have:b≠p:=by rintro rfl;rw [hG]at h;cases h
  rw [AN this];exact e,fun b h=>by
  by_cases hb:b=p
  ·subst hb;left;rw [hG];exact nofun
  ·rw [Cj hb]at h;exact .inl h⟩
 refine ⟨E,fun b u q=>?_⟩
 by_cases hb:b=p
 ·subst hb
  rw [AL]at q
  cases q
  exact ⟨vs,Ar,r.same E.hid⟩
 ·rw [Cj hb]at q
  exact (o b u q).ext E.hid (AN hb)
theorem SG {H:Hp} {p:Addr} {l:List Dat} (o:GOk X.K H G) (hG:G p=some (.lst l)):Ext H G H (rel G p)/\GOk X.K H (rel G p)/\Rep X.K (hid H (rel G p)) (.lst l) (.ref p):=by
 have E:Ext H G H (rel G p):=⟨fun b u e _=>e,fun b h=>by
  by_cases hb:b=p
  ·subst hb;rw [CF]at h;exact absurd rfl h
  ·rw [D6 hb]at h;exact .inl h⟩
 refine ⟨E,fun b u q=>?_,?_⟩
 ·by_cases hb:b=p
  ·subst hb;rw [CF]at q;cases q
  ·rw [D6 hb]at q
   exact (o b u q).ext E.hid rfl
 ·obtain ⟨vs,h1,r1⟩:=o p _ hG
  rw [Rep]
  exact ⟨p,vs,rfl,EX CF h1,r1.same E.hid⟩
theorem KC (i:Nat) {x:Str} {pos':Pos} (hN:X.N.Nodup) (h:PXs X ρ G es ds) (q:∀p,G p=none->WSs X (ρ.set i (some (.fn p))) (put G p (.lst ds)) rest D) (hz:ds.length≤1000:=by first|decide|(simp;done)) (hi:X.N[i]?=some x:=by rfl) (hx:Loc X.env.scope x:=by first|exact Or.inl rfl|exact Or.inr rfl)
  (hs:swapsWith (.List es p2) (some (.Name x pos')) pos.line X.env=pure false:=by rfl) (hf:X.fn x=true\/X.env.scope.names.lookup x=some .local:=by first|exact .inl rfl|exact .inr rfl|assumption):WSs X ρ G (.Assign [.Name x pos'] (.List es p2) pos::rest) D:=
 Bt (OM (QI (i:=i) hN hi hx (We Kd) hs hf) fun σ H S=>⟨ρ,G,_,h,S,fun vs H1 ⟨_,_,e1,o1,r1,q1,Bp⟩=>by
  subst q1;subst Bp
  refine ⟨by rw [r1.length];exact Nat.le_of_lt (Ik hz),fun p hp=>?_⟩
  obtain ⟨E,O⟩:=SY o1 hp r1
  exact ⟨_,_,e1.trans E,Stt.set (d:=.fn p) (v:=.ref p) (S.ext (e1.trans E) O) rfl,q p (o1.free hp)⟩⟩)
theorem Eg {p:Addr} {apos Ae:Pos} (hx:PX X ρ G a (.fn p)) (h:PX X ρ G e d) (hG:G p=some (.lst l)) (hz:l.length<sizeLine) (q:WSs X ρ (put G p (.lst (l++[d]))) rest D)
  (C6:attributeBase a "append" X.env (eval a X.env)=eval a X.env:=by rfl) (CG:(apos.endLine==Ae.line)=true:=by rfl) (he:starEach [e] X.env=(false,eval e X.env)::starEach [] X.env:=by rfl)
  (KR:((backTo Ae (starEach [e] X.env)).all (fun x=>!x.1)&&(backToKw Ae (keywordEach [] X.env)).all (fun x=>x.1.isSome)&&decide (([e]:List Expr).length+([]:List Keyword).length+(if ([]:List Keyword).isEmpty then 0 else 1)<30))=true:=by rfl)
  (hs:swapsWith (.Call (.Attribute a "append" apos) [e] [] Ae) none pos.line X.env=pure false:=by rfl):WSs X ρ G (.Expr (.Call (.Attribute a "append" apos) [e] [] Ae) pos::rest) D:=
 Bt (OM (Rn (Ze PySem.F.plainAttrs_list PySem.F.slot_list_append PySem.F.type_list_append Me Ak (B3 Ak D3 he) C6 KR CG he rfl) hs) fun σ H S=>⟨ρ,G,_,hx,S,fun x H1 ⟨_,_,e1,o1,r1,q1,Bp⟩=>by
  subst q1;subst Bp
  cases (show x=V.ref p from r1)
  obtain ⟨bP,h1,_⟩:=o1 p _ hG
  refine ⟨.inl ⟨rfl,bP,SqL.of h1⟩,ρ,_,_,h,S.ext e1 o1,fun y H2 ⟨_,_,e2,o2,r2,q2,Ek⟩=>?_⟩
  subst q2;subst Ek
  obtain ⟨vs,h2,r3⟩:=o2 p _ hG
  refine ⟨p,vs,y,rfl,rfl,h2,by rw [r3.length];exact hz,?_⟩
  obtain ⟨E,O⟩:=Nm o2 hG (r3.append (RepL.cons r2 RepL.nil))
  exact ⟨ρ,_,(e1.trans e2).trans E,S.ext ((e1.trans e2).trans E) O,q⟩⟩)
end
theorem EF {α β:Type} {f:α->β->Sem (ForInStep β)} {g:β->α->β}:∀(l:List α) (c:β),(∀x∈l,∀c,f x c=pure (.yield (g c x)))->forIn l c f=(pure (l.foldl g c):Sem β)
 |[],_,_=>rfl
 |x::l,c,h=>by
  rw [List.forIn_cons,h x List.mem_cons_self,pure_bind]
  exact EF l _ fun y hy=>h y (List.mem_cons_of_mem _ hy)
def clF (env:Env):List (Str×Addr)->Str×NameKind->List (Str×Addr):=fun cs x=>if (x.2==NameKind.free)=true then (x.1,(env.cells.lookup x.1).getD 0)::cs else cs
def WK (scope:Scope) (env:Env):List (Str×Addr):=scope.names.foldl (clF env) []
theorem Gb {scope:Scope} {env:Env} (h:∀x∈scope.names,x.2=.free->∃c,env.cells.lookup x.1=some c):closureFor scope env=pure (WK scope env):=by
 simp only [closureFor]
 rw [EF (g:=clF env) scope.names [] (fun x hx c=>?_)]
 ·rfl
 ·obtain ⟨n,kind⟩:=x
  by_cases hk:kind=.free
  ·subst hk
   obtain ⟨a,ha⟩:=h _ hx rfl
   simp only [cellOf,clF,ha,beq_self_eq_true,if_true,Option.getD_some,pure_bind]
  ·have:(kind==NameKind.free)=false:=by simpa using hk
   simp only [clF,this,Bool.false_eq_true,if_false]
theorem RF {env:Env} {x:Str} {c:Addr}:∀(l:List (Str×NameKind)) (cs:List (Str×Addr)),(x,c)∈l.foldl (clF env) cs->(x,c)∈cs\/((x,NameKind.free)∈l/\c=(env.cells.lookup x).getD 0)
 |[],_,h=>.inl h
 |(n,k)::l,cs,h=>by
  rcases RF l _ h with h|⟨h1,h2⟩
  ·unfold clF at h
   by_cases hk:(k==NameKind.free)=true
   ·rw [if_pos hk]at h
    rcases List.mem_cons.mp h with e|h
    ·cases e
     exact .inr ⟨by rw [eq_of_beq hk];exact List.mem_cons_self,rfl⟩
    ·exact .inl h
   ·rw [if_neg hk]at h
    exact .inl h
  ·exact .inr ⟨List.mem_cons_of_mem _ h1,h2⟩
theorem RZ {env:Env} {x:Str}:∀(l:List (Str×NameKind)) (cs:List (Str×Addr)),((x,NameKind.free)∈l\/∃c,(x,c)∈cs)->∃c,(x,c)∈l.foldl (clF env) cs
 |[],_,h=>by
  rcases h with h|h
  ·cases h
  ·exact h
 |(n,k)::l,cs,h=>by
  refine RZ l _ ?_
  rcases h with h|⟨c,h⟩
  ·rcases List.mem_cons.mp h with e|h
   ·cases e
    right
    refine ⟨(env.cells.lookup x).getD 0,?_⟩
    unfold clF
    rw [if_pos (by rfl)]
    exact List.mem_cons_self
   ·exact .inl h
  ·right
   refine ⟨c,?_⟩
   unfold clF
   split
   ·exact List.mem_cons_of_mem _ h
   ·exact h
theorem K3 {α:Type} {x:Str} {c:α}:∀{l:List (Str×α)},l.lookup x=some c->(x,c)∈l
 |[],h=>by simp at h
 |(n,k)::l,h=>by
  by_cases e:x=n
  ·subst e
   simp only [List.lookup_cons,beq_self_eq_true]at h
   cases h
   exact List.mem_cons_self
  ·have:(x==n)=false:=by simpa using e
   simp only [List.lookup_cons,this]at h
   exact List.mem_cons_of_mem _ (K3 h)
theorem LI {α:Type} {x:Str} {c:α}:∀{l:List (Str×α)},(x,c)∈l->∃c',l.lookup x=some c'
 |[],h=>by cases h
 |(n,k)::l,h=>by
  by_cases e:x=n
  ·subst e;exact ⟨k,by simp [List.lookup_cons]⟩
  ·have:(x==n)=false:=by simpa using e
   rcases List.mem_cons.mp h with q|q
   ·cases q;exact absurd rfl e
   ·obtain ⟨c',h'⟩:=LI q
    exact ⟨c',by simpa [List.lookup_cons,this]using h'⟩
def Aa (X:Cx) (Nc:List Str) (scope:Scope) (C:Addr) (s:Shared) (H:Hp) (fp:List Addr):Cx where
 prog:=X.prog
 w:=X.w
 K:=X.K
 mg:=X.mg
 base:=X.base
 A:=X.A
 N:=Nc
 s₀:=s
 H₀:=H
 env:=compEnvC scope (WK scope X.env) C X.env
 outer:=X.stack
 stack:=X.stack
 ex:=fp
 fn:=fun _=>false
 calm:=true
 pn:=[]
 xe:=fun _ _=>False
def Uq (psc:Scope) (PN:List Str) (scope:Scope) (Nc:List Str) (caps:List (Option Nat)):Bool:=
 decide (scope.kind=.function)&&scope.names.all (fun x=>decide (x.2≠.cell))&&scope.names.all (fun x=>decide (x.2=.local->scope.names.lookup x.1=some .local)) &&
 scope.names.all (fun x=>decide (x.2=.free->scope.names.lookup x.1=some .free/\(psc.names.lookup x.1=some .cell\/psc.names.lookup x.1=some .free)))&&decide Nc.Nodup&&decide (caps.length=Nc.length) &&
 (caps.zip Nc).all (fun q=>match q.1 with|none=>true|some j=>decide (PN[j]?=some q.2)&&decide ((q.2,NameKind.free)∈scope.names))
structure CompSc (X:Cx) (scope:Scope) (Nc:List Str) (caps:List (Option Nat)):Prop where
 kind:scope.kind=.function
 nocell:∀x∈scope.names,x.2≠.cell
 names:∀x∈scope.names,x.2=.local->scope.names.lookup x.1=some .local
 free:∀x∈scope.names,x.2=.free->X.env.kindOf x.1=some .cell\/X.env.kindOf x.1=some .free
 sole:∀x∈scope.names,x.2=.free->scope.names.lookup x.1=some .free
 nd:Nc.Nodup
 len:caps.length=Nc.length
 caps:∀(i j:Nat) (x:Str),caps[i]?=some (some j)->Nc[i]?=some x->X.N[j]?=some x/\(x,NameKind.free)∈scope.names
theorem CO {X:Cx} {psc:Scope} {PN:List Str} {scope:Scope} {Nc:List Str} {caps:List (Option Nat)} (h:Uq psc PN scope Nc caps=true) (h1:X.env.scope=psc) (h2:X.N=PN):CompSc X scope Nc caps:=by
 unfold Uq at h
 simp only [Bool.and_eq_true,decide_eq_true_eq,List.all_eq_true]at h
 obtain ⟨⟨⟨⟨⟨⟨a,b⟩,c⟩,d⟩,e⟩,f⟩,g⟩:=h
 refine ⟨a,b,c,fun x hx hf=>?_,fun x hx hf=>(d x hx hf).1,e,f,fun i j x hi hj=>?_⟩
 ·have:=(d x hx hf).2
  show X.env.scope.names.lookup x.1=_\/X.env.scope.names.lookup x.1=_
  rw [h1];exact this
 ·have hm:(some j,x)∈caps.zip Nc:=List.mem_of_getElem? (i:=i) (by rw [List.getElem?_zip_eq_some];exact ⟨hi,hj⟩)
  have:=g _ hm
  simp only [Bool.and_eq_true,decide_eq_true_eq]at this
  rw [h2]
  exact this
def Bb {α:Type} (caps:List (Option Nat)) (l:List (Option α)):List (Option α):=caps.map fun o=>o.bind fun j=>(l[j]?).join
theorem O9 {α:Type} {caps:List (Option Nat)} {l:List (Option α)} {i:Nat} {v:α} (h:(Bb caps l)[i]?=some (some v)):∃j,caps[i]?=some (some j)/\l[j]?=some (some v):=by
 unfold Bb at h
 rw [List.getElem?_map]at h
 cases q:caps[i]? with
 |none=>rw [q]at h;cases h
 |some o=>
  rw [q]at h
  cases o with
  |none=>simp at h
  |some j=>
   refine ⟨j,rfl,?_⟩
   simp only [Option.map_some,Option.bind_some,Option.some.injEq]at h
   cases z:l[j]? with
   |none=>rw [z]at h;simp at h
   |some u=>rw [z]at h;simp only [Option.join_some]at h;rw [h]
theorem U3 {α:Type} {caps:List (Option Nat)} {l:List (Option α)} {i j:Nat} {v:α} (h:caps[i]?=some (some j)) (h':l[j]?=some (some v)):(Bb caps l)[i]?=some (some v):=by
 unfold Bb
 rw [List.getElem?_map,h]
 simp [h']
section
variable {X:Cx}{pins:List (Addr×Obj)}{σ:St}{H:Hp}{s:Shared}{scope:Scope}{Nc:List Str}{caps:List (Option Nat)}{fp:List Addr}{ρ:Rho}{G:Gs}
theorem DS (I:Inv X pins σ H s) (Sc:CompSc X scope Nc caps) {x:Str} {c:Addr} (h:(WK scope X.env).lookup x=some c):X.env.cells.lookup x=some c/\(x,NameKind.free)∈scope.names:=by
 rcases RF _ _ (K3 h)with h|⟨h1,h2⟩
 ·cases h
 ·obtain ⟨c',hc⟩:=I.ok.has x (Sc.free _ h1 rfl)
  rw [hc]at h2
  exact ⟨by rw [hc,h2];rfl,h1⟩
theorem R4 (I:Inv X pins σ H s) (Sc:CompSc X scope Nc caps) {x:Str} (h:(x,NameKind.free)∈scope.names):∃c,(WK scope X.env).lookup x=some c/\X.env.cells.lookup x=some c:=by
 obtain ⟨c,hm⟩:=RZ (env:=X.env) scope.names [] (.inl h)
 obtain ⟨c',hc⟩:=LI hm
 exact ⟨c',hc,(DS I Sc hc).1⟩
theorem HH {env:Env} {x:Str}:∀{names:List (Str×NameKind)} {k:NameKind},(names.map fun (n,k)=>if (k==NameKind.free&&env.scope.kind==.function&&env.kindOf n==some .cell)then (n,NameKind.cell)else (n,k)).lookup x=some k →
  ∃k',(x,k')∈names/\(k=k'\/(k'=.free/\k=.cell))
 |[],_,h=>by simp at h
 |(n,k0)::r,k,h=>by
  rw [List.map_cons]at h
  by_cases e:x=n
  ·subst e
   by_cases hc:(k0==NameKind.free&&env.scope.kind==.function&&env.kindOf x==some .cell)=true
   ·simp only [hc,if_true,List.lookup_cons,beq_self_eq_true]at h
    cases h
    simp only [Bool.and_eq_true]at hc
    exact ⟨k0,List.mem_cons_self,.inr ⟨eq_of_beq hc.1.1,rfl⟩⟩
   ·simp only [hc,Bool.false_eq_true,if_false,List.lookup_cons,beq_self_eq_true]at h
    cases h
    exact ⟨k0,List.mem_cons_self,.inl rfl⟩
  ·have hx:(x==n)=false:=by simpa using e
   have:(List.map (fun (x:Str×NameKind)=>match x with|(n,k)=>if (k==NameKind.free&&env.scope.kind==.function&&env.kindOf n==some .cell)then (n,NameKind.cell)else (n,k)) r).lookup x=some k:=by
    by_cases hc:(k0==NameKind.free&&env.scope.kind==.function&&env.kindOf n==some .cell)=true
    ·simp only [hc,if_true,List.lookup_cons,hx]at h;exact h
    ·simp only [hc,Bool.false_eq_true,if_false,List.lookup_cons,hx]at h;exact h
   obtain ⟨k',h1,h2⟩:=HH this
   exact ⟨k',List.mem_cons_of_mem _ h1,h2⟩
theorem HR {env:Env} {x:Str}:∀{names:List (Str×NameKind)},names.lookup x=some .free->(names.map fun (n,k)=>if (k==NameKind.free&&env.scope.kind==.function&&env.kindOf n==some .cell)then (n,NameKind.cell)else (n,k)).lookup x=some .cell ∨
  (names.map fun (n,k)=>if (k==NameKind.free&&env.scope.kind==.function&&env.kindOf n==some .cell)then (n,NameKind.cell)else (n,k)).lookup x=some .free
 |[],h=>by simp at h
 |(n,k0)::r,h=>by
  rw [List.map_cons]
  by_cases e:x=n
  ·subst e
   simp only [List.lookup_cons,beq_self_eq_true]at h
   cases h
   by_cases hc:(NameKind.free==NameKind.free&&env.scope.kind==.function&&env.kindOf x==some .cell)=true
   ·left
    show List.lookup x ((if (NameKind.free==NameKind.free&&env.scope.kind==.function&&env.kindOf x==some .cell)=true then (x,NameKind.cell)else (x,NameKind.free))::_)=_
    rw [if_pos hc,List.lookup_cons,beq_self_eq_true]
   ·right
    show List.lookup x ((if (NameKind.free==NameKind.free&&env.scope.kind==.function&&env.kindOf x==some .cell)=true then (x,NameKind.cell)else (x,NameKind.free))::_)=_
    rw [if_neg hc,List.lookup_cons,beq_self_eq_true]
  ·have hx:(x==n)=false:=by simpa using e
   simp only [List.lookup_cons,hx]at h
   have ih:=HR (env:=env) h
   by_cases hc:(k0==NameKind.free&&env.scope.kind==.function&&env.kindOf n==some .cell)=true
   ·simp only [hc,if_true,List.lookup_cons,hx];exact ih
   ·simp only [hc,Bool.false_eq_true,if_false,List.lookup_cons,hx];exact ih
theorem QV (I:Inv X pins σ H s) (Sc:CompSc X scope Nc caps) (B9:X.calm=true) {h₁:Heap} {tk:Nat} (hf:∀b∈fp,IP X pins H b) (A4:∀b∈fp,b<s.heap.objs.size)
  (Nv:∃m,h₁.Ns s.heap.objs.size m) (hk:∀b u,s.heap.get? b=some u->h₁.get? b=some u) :
  Inv (Aa X Nc scope s.heap.objs.size s H fp) [] (Bb caps σ) H { s with heap:=h₁,toks:=tk }:=by
 have dZ:∀x,((Aa X Nc scope s.heap.objs.size s H fp).env.kindOf x=some .cell\/(Aa X Nc scope s.heap.objs.size s H fp).env.kindOf x=some .free)->(x,NameKind.free)∈scope.names:=fun x hx=>by
  have hh:∃k,(k=NameKind.cell\/k=NameKind.free)/\(Aa X Nc scope s.heap.objs.size s H fp).env.kindOf x=some k:=by
   rcases hx with h|h
   ·exact ⟨_,.inl rfl,h⟩
   ·exact ⟨_,.inr rfl,h⟩
  obtain ⟨k,hk,h⟩:=hh
  obtain ⟨k',h1,h2⟩:=HH (env:=X.env) h
  rcases h2 with e|⟨e,_⟩
  ·subst e
   rcases hk with e|e
   ·subst e;exact absurd rfl (Sc.nocell _ h1)
   ·subst e;exact h1
  ·subst e;exact h1
 refine ⟨?_,rfl,I.bare,Un.kept hk,?_,fun x c e=>?_,?_,fun x c e=>?_,fun p hp=>?_,I.hok.kept hk,?_⟩
 ·refine ⟨I.ok.mod,Sc.kind,I.ok.glob,I.ok.blt,Nat.le_refl _,fun x y c h1 h2=>?_,fun x h=>?_,fun x c h=>?_,fun _=>I.ok.hd B9,I.ok.frames,.inl rfl,fun b hb=>?_,I.bs,Nat.le_trans I.ok.bsz I.sz,fun b o e hb=>?_,fun b hb O5=>?_,I.stack,I.stkFree⟩
  ·exact I.ok.inj x y c (DS I Sc h1).1 (DS I Sc h2).1
  ·obtain ⟨c,h1,_⟩:=R4 I Sc (dZ x h)
   exact ⟨c,h1⟩
  ·exact absurd h Bool.false_ne_true
  ·exact ⟨Nat.ne_of_lt (A4 b hb),fun x c e=>(hf b hb).2.2.2.2.1 x c (DS I Sc e).1⟩
  ·rcases (hf b hb).2.2.2.1 with z|z
   ·exact I.ok.noex b o e z
   ·exact absurd (Nat.lt_of_lt_of_le (Heap.lt_size e) (Nat.le_trans I.ok.bsz z)) (Nat.lt_irrefl _)
  ·rcases List.mem_cons.mp (I.stkSub b O5)with z|z
   ·exact (hf b hb).2.1 z
   ·exact (hf b hb).2.2.1 z
 ·obtain ⟨m,hm⟩:=Nv
  refine ⟨m,hm,fun i x v h1 h2 h3=>?_⟩
  obtain ⟨j,hj,hv⟩:=O9 h2
  obtain ⟨hN,IF⟩:=Sc.caps i j x hj h1
  obtain ⟨c,vp,iD⟩:=R4 I Sc IF
  have kx:=Sc.free _ IF rfl
  obtain ⟨m0,_,hl⟩:=I.loc
  obtain ⟨u,ru,lk⟩:=hl j x v hN hv (by rcases kx with z|z;exact .inr (.inl z);exact .inr (.inr z))
  refine ⟨u,ru,?_⟩
  rcases lk with ⟨z,_⟩|⟨_,c',e',cell⟩
  ·rcases kx with y|y<;>(have y':X.env.kindOf x=_:=y;rw [z]at y';cases y')
  ·rw [iD]at e'
   cases e'
   exact .inr ⟨HR (Sc.sole _ IF rfl),c,vp,cell.keeps hk⟩
 ·obtain ⟨v,z⟩:=I.cell x c (DS I Sc e).1
  exact ⟨v,z.keeps hk⟩
 ·exact I.hok.fresh (Nat.le_refl _)
 ·exact I.freeC x c (DS I Sc e).1
 ·cases hp
 ·unfold Bb;rw [List.length_map];exact Sc.len
end
theorem Kh {X:Cx} {pins:List (Addr×Obj)} {σ σc:St} {H Hf:Hp} {s sf:Shared} {scope:Scope} {Nc:List Str} {fp:List Addr} {h':Heap} (I:Inv X pins σ H s) (hf:∀b∈fp,IP X pins H b)
  (Ic:Inv (Aa X Nc scope s.heap.objs.size s H fp) [] σc Hf sf) (hs:Heap.SameBut s.heap.objs.size sf.heap h'):Inv X pins σ Hf { sf with heap:=h' }:=by
 have UR:∀b∈fp,(b∈X.ex\/X.s₀.heap.objs.size≤b)/\b≠X.env.locals/\(∀x c,X.env.cells.lookup x=some c->c≠b)/\∀p∈X.pn++pins,p.1≠b:=fun b hb=>
  ⟨(hf b hb).2.2.2.1,(hf b hb).2.1,(hf b hb).2.2.2.2.1,(hf b hb).2.2.2.2.2⟩
 have I1:Inv X pins σ Hf sf:=I.call' Ic.os Ic.base Ic.hok Ic.bare UR
 have hC:Hf s.heap.objs.size=none:=Ic.free
 refine I1.turned (t':=sf.toks) (it:=s.heap.objs.size) (fun b o hb e=>hs.extBut b o hb e) hC (Nat.ne_of_gt I.lt) (.inr I.sz) (fun x c e z=>?_) fun p hp z=>?_
 ·obtain ⟨v,o,ho,_⟩:=I.cell x c e
  rw [z]at ho
  exact absurd (Heap.lt_size ho) (Nat.lt_irrefl _)
 ·have:=(I.pin p hp).1
  rw [z]at this
  exact absurd (Heap.lt_size this) (Nat.lt_irrefl _)
def KU (elt:Expr) (env:Env) (acc:Value):Sem Unit:=eval elt env >>= fun x=>call (.builtin "list.append") [acc,x] >>= fun _=>pure ()
def Oe (c elt:Expr) (env:Env) (acc:Value):Sem Unit:=isTrue c env (eval c env) >>= fun ok=>if ok=true then KU elt env acc else pure ()
def NR (elt target iter:Expr) (ifs:List Expr) (scope:Scope) (pos:Pos) (tail:Env->Value->Sem Unit):Prop:=
 ∀(it acc:Value) (env:Env),compTurn (.ListComp elt [⟨target,iter,ifs,0⟩] scope pos) 0 it acc env=(standAt iter.pos >>= fun _=>pyNext it >>= fun r=>match r with
   |none=>pure (.done .next)
   |some v=>letOwnedTupleGo target it v >>= fun _=>assign target env v >>= fun _=>tail env acc >>= fun _=>
     again (.compLoop (.ListComp elt [⟨target,iter,ifs,0⟩] scope pos) 0 it acc env))
theorem LM (elt target iter:Expr) (scope:Scope) (pos:Pos):NR elt target iter [] scope pos (KU elt):=fun it acc env=>by rfl
theorem Ua (elt target iter c:Expr) (scope:Scope) (pos:Pos):NR elt target iter [c] scope pos (Oe c elt):=fun it acc env=>by
 have e:compTurn (.ListComp elt [⟨target,iter,[c],0⟩] scope pos) 0 it acc env=(standAt iter.pos >>= fun _=>pyNext it >>= fun r=>match r with
   |none=>pure (.done .next)
   |some v=>letOwnedTupleGo target it v >>= fun _=>assign target env v >>= fun _=>
     (forIn [c] true fun c r=>if r=true then (isTrue c env (eval c env) >>= fun ok=>pure (ForInStep.yield ok))else pure (ForInStep.yield r)) >>= fun ok=>
      if ok=true then (KU elt env acc >>= fun _=>again (.compLoop (.ListComp elt [⟨target,iter,[c],0⟩] scope pos) 0 it acc env))else again (.compLoop (.ListComp elt [⟨target,iter,[c],0⟩] scope pos) 0 it acc env)):=by rfl
 rw [e]
 refine congrArg _ (funext fun _=>congrArg _ (funext fun r=>?_))
 cases r with
 |none=>rfl
 |some v=>
  refine congrArg (letOwnedTupleGo target it v >>= ·) (funext fun _=>congrArg (assign target env v >>= ·) (funext fun _=>?_))
  unfold Oe
  simp only [List.forIn_cons,List.forIn_nil,if_true,bind_assoc,pure_bind]
  refine congrArg (isTrue c env (eval c env) >>= ·) (funext fun ok=>?_)
  cases ok<;>simp
def Jz (Xc:Cx) (ρ:Rho) (G:Gs) (tl:Sem Unit) (Q:Gs->Prop):Prop:=
 ∀(pins:List (Addr×Obj)) (s:Shared) (σ:St) (H:Hp),Inv Xc pins σ H s->Stt Xc H σ ρ G->wpAny (model Xc.prog Xc.w) Xc.A tl (fun _ s'=>∃H' G',Inv Xc pins σ H' s'/\Ext H G H' G'/\GOk Xc.K H' G'/\Q G') (fun _ _=>False) s
section
variable {X:Cx}{pins:List (Addr×Obj)}{σ:St}{H:Hp}{s:Shared}{scope:Scope}{Nc:List Str}{caps:List (Option Nat)}{ρ:Rho}{G:Gs}{elt target iter c:Expr}{ifs:List Expr}{Ae:Pos}{l:List Dat}{f:Dat->Rho->Option Rho}{tail:Env->Value->Sem Unit}
theorem MY (Pv:Nat->List Dat->Gs->Prop) (ht:NR elt target iter ifs scope Ae tail) (Sc:CompSc X scope Nc caps) (B9:X.calm=true)
  (hg:∀C s' H' fp,PGD (Aa X Nc scope C s' H' fp) target f) (hle:∀d ρ',f d (Bb caps ρ)=some ρ'->ρ'.length=(Bb caps ρ).length/\∀(j:Nat) e,(Bb caps ρ)[j]?=some (some e)->ρ'[j]?=some (some e)) (hz:l.length≤sizeLine)
  (DW:∀C s' H' fp D i d acc G',l[i]?=some d->Pv i acc G'->G' D=none->∃ρ',f d (Bb caps ρ)=some ρ' ∧
   Jz (Aa X Nc scope C s' H' fp) ρ' (put G' D (.lst acc)) (tail (Aa X Nc scope C s' H' fp).env (.ref D)) fun VA=>∃Cc G4,Cc.length≤acc.length+1/\G4 D=none/\VA=put G4 D (.lst Cc)/\Pv (i+1) Cc G4)
  {it:Addr} {fp:List Addr} {tn:Nat->Heap->Prop} {J:It} (I:Inv X pins σ H s) (S:Stt X H σ ρ G) (T:Turn X.prog X.w X.K target J fp it tn) (st:tn 0 s.heap) (hf:∀b∈fp,IP X pins H b) (wk:Wk X.K J H G l) (p0:Pv 0 [] G)
  {E:Value->Shared->Prop} {RR:Value->Addr->Result->Shared->Prop}
  (sg:∀D C s3 sf σc Hf Gf acc,(∀b o,s.heap.get? b=some o->s3.heap.get? b=some o)->C=s3.heap.objs.size->(∃H3,Inv X pins σ H3 s3/\(∀b∈fp,IP X pins H3 b)/\Inv (Aa X Nc scope C s3 H3 fp) [] σc Hf sf)->Ext H G Hf (put Gf D (.lst acc))->GOk X.K Hf (put Gf D (.lst acc))->Gf D=none->Pv l.length acc Gf->RR (.ref D) C (.ok .next) sf) :
  wpAny (model X.prog X.w) X.A (newList []) (fun acc s₃=>wpAny (model X.prog X.w) X.A (newFunctionEnv scope X.env.globals (WK scope X.env) [] X.env.qual none .none (some X.env)) (fun cw s₄=>
   codeAny (model X.prog X.w) X.A (.compStart (.ListComp elt [⟨target,iter,ifs,0⟩] scope Ae) 0 (.ref it) acc { cw with scope:=relabel scope X.env }) (RR acc cw.locals) s₄) E s₃) E s:=by
 refine wpAny_newObj_type (wpAny_newFunctionEnv Sc.nocell (by intro y hy;simp at hy) (fun h₁ Nv₁ LV₁=>?_) Sc.kind)
 dsimp only at Nv₁ LV₁ ⊢
 have I3:Inv X pins σ (upd H s.heap.objs.size (.lst [])) { s with heap:=s.heap.push { cls:=.type "list",data:=.seq ([]:List Value).toArray },toks:=s.toks }:=I.lnew (ys:=[]) (its:=[]) .nil (Nat.zero_le _)
 have hD:H s.heap.objs.size=none:=I.hok.fresh (Nat.le_refl _)
 obtain ⟨E3,O3⟩:=SY (X:=X) (ds:=[]) S.own hD RepL.nil
 have qN:∀b∈fp,b<s.heap.objs.size:=fun b hb=>by obtain ⟨o,e,_⟩:=T.obj 0 _ st b hb;exact Heap.lt_size e
 have ne2:∀b∈fp,b≠s.heap.objs.size:=fun b hb=>Nat.ne_of_lt (qN b hb)
 have f3:∀b∈fp,IP X pins (upd H s.heap.objs.size (.lst [])) b:=fun b hb=>⟨by rw [AN (ne2 b hb)];exact (hf b hb).1,(hf b hb).2⟩
 generalize hs3:({ s with heap:=s.heap.push { cls:=.type "list",data:=.seq ([]:List Value).toArray },toks:=s.toks }:Shared)=s3 at I3
 have e3:s3.heap=s.heap.push { cls:=.type "list",data:=.seq ([]:List Value).toArray }:=by rw [<-hs3]
 have k3:∀b o,s.heap.get? b=some o->s3.heap.get? b=some o:=fun b o e=>by rw [e3];exact Heap.get?_push_of_some _ e
 have hC:s3.heap.objs.size=s.heap.objs.size+1:=by rw [e3,Heap.size_push]
 have qd:∀b∈fp,b<s3.heap.objs.size:=fun b hb=>by rw [hC];exact Nat.lt_succ_of_lt (qN b hb)
 rw [<-e3]at Nv₁ LV₁
 have hk:∀b u,s3.heap.get? b=some u->h₁.get? b=some u:=fun b u e=>LV₁.extBut b u (Nat.ne_of_lt (Heap.lt_size e)) (Heap.get?_push_of_some _ e)
 have Ic:=QV (tk:=s.toks+([]:List (Str×Value)).length) I3 Sc B9 f3 qd ⟨_,Nv₁⟩ hk
 have BS:tn 0 h₁:=T.keep _ _ _ st fun b hb o e=>hk b o (k3 b o e)
 have yP:Stt (Aa X Nc scope s3.heap.objs.size s3 (upd H s.heap.objs.size (.lst [])) fp) (upd H s.heap.objs.size (.lst [])) (Bb caps σ) (Bb caps ρ) (put G s.heap.objs.size (.lst [])):=by
  refine ⟨fun i d h=>?_,by unfold Bb;rw [List.length_map,List.length_map],O3⟩
  obtain ⟨j,hj,hd⟩:=O9 h
  obtain ⟨v,hv,rv⟩:=S.env j d hd
  exact ⟨v,U3 hj hv,rv.same E3.hid⟩
 have rD:∀H' G',Ext (upd H s.heap.objs.size (.lst [])) (put G s.heap.objs.size (.lst [])) H' G'->Ext H G H' G':=fun H' G' e=>E3.trans e
 have loop:∀s4:Shared,s4={ s3 with heap:=h₁,toks:=s.toks+([]:List (Str×Value)).length } →
   codeAny (model X.prog X.w) X.A (.compLoop (.ListComp elt [⟨target,iter,ifs,0⟩] scope Ae) 0 (.ref it) (.ref s.heap.objs.size) (Aa X Nc scope s3.heap.objs.size s3 (upd H s.heap.objs.size (.lst [])) fp).env) (RR (.ref s.heap.objs.size) s3.heap.objs.size) s4:=by
  rintro s4 rfl
  refine codeAny_loop rfl (fun n s'=>∃i acc σ' H' G',i+n=l.length/\acc.length≤i/\Inv (Aa X Nc scope s3.heap.objs.size s3 (upd H s.heap.objs.size (.lst [])) fp) [] σ' H' s'/\tn i s'.heap/\(∀b∈fp,H' b=none) ∧
    Ext (upd H s.heap.objs.size (.lst [])) (put G s.heap.objs.size (.lst [])) H' (put G' s.heap.objs.size (.lst acc))/\Stt (Aa X Nc scope s3.heap.objs.size s3 (upd H s.heap.objs.size (.lst [])) fp) H' σ' (Bb caps ρ) (put G' s.heap.objs.size (.lst acc))/\G' s.heap.objs.size=none/\Pv i acc G') ?_ l.length
   ⟨0,[],_,_,G,Nat.zero_add _,Nat.le_refl _,Ic,BS,fun b hb=>(f3 b hb).1,Ext.refl,yP,S.own.free hD,p0⟩
  rintro n s5 ⟨i,acc,σ5,H5,G5,hn,Hi,I5,Zp,iK,e5,S5,rV,p5⟩
  show wpAny (model X.prog X.w) X.A ((compTurn (.ListComp elt [⟨target,iter,ifs,0⟩] scope Ae) 0 (.ref it) (.ref s.heap.objs.size) (Aa X Nc scope s3.heap.objs.size s3 (upd H s.heap.objs.size (.lst [])) fp).env).onRaise (fun x=>do noteFrame x (Aa X Nc scope s3.heap.objs.size s3 (upd H s.heap.objs.size (.lst [])) fp).env;theTreesLotGoes x)) _ _ s5
  refine wpAny_noted ?_
  rw [ht]
  refine wpAny_bind (wpAny_standAt (wpAny_bind ?_))
  have QR:∀{H':Hp},(∀b∈fp,H' b=none)->∀b∈fp,IP (Aa X Nc scope s3.heap.objs.size s3 (upd H s.heap.objs.size (.lst [])) fp) [] H' b:=fun hn b hb=>
   ⟨hn b hb,Nat.ne_of_lt (qd b hb),Ic.ok.exfs b hb,.inl hb,(Ic.ok.exf b hb).2,fun p hp=>by cases hp⟩
  obtain ⟨aw,j3⟩:=wk H5 _ (rD _ _ e5)
  cases n with
  |zero=>
   have az:i=l.length:=by lia
   subst az
   refine thn (T.done (Aa X Nc scope s3.heap.objs.size s3 (upd H s.heap.objs.size (.lst [])) fp) rfl rfl rfl rfl _ [] s5 σ5 H5 _ I5 (QR iK) Zp j3) fun r s6 ⟨hr,I6⟩=>?_
   subst hr
   exact wpAny_pure (sg _ _ s3 s6 σ5 H5 G5 acc k3 rfl ⟨_,I3,f3,I6⟩ (rD _ _ e5) S5.own rV p5)
  |succ n=>
   have A4:i<l.length:=by lia
   obtain ⟨go,aw⟩:=aw i _ (List.getElem?_eq_getElem A4)
   obtain ⟨ρ6,sD,w6⟩:=DW s3.heap.objs.size s3 (upd H s.heap.objs.size (.lst [])) fp s.heap.objs.size i _ acc G5 (List.getElem?_eq_getElem A4) p5 rV
   refine thn (T.item (Aa X Nc scope s3.heap.objs.size s3 (upd H s.heap.objs.size (.lst [])) fp) rfl rfl rfl rfl i [] s5 σ5 H5 _ I5 (QR iK) Zp go) fun r s6 ⟨u,hr,h6⟩=>?_
   subst hr
   refine wpAny_bind (thn h6 fun _ s7 ⟨x,H7,I7,r7,y7,kJ,vW⟩=>?_)
   obtain ⟨e7,o7,ft⟩:=aw x H7 y7
   have kO:=ft S5.own
   have yC:=I7.pinned (QR vW) (T.obj _ _ kJ)
   refine wpAny_bind (wpAny_mono (hg _ _ _ _ _ s7 σ5 H7 x u (Bb caps ρ) ρ6 _ _ yC r7 (S5.ext e7 (o7 S5.own)) kO sD) (fun _ s8 ⟨σ8,H8,I8,e8,S8⟩=>?_) fun _ _ z=>z.elim)
   refine wpAny_bind (wpAny_mono (w6 _ s8 σ8 H8 I8 S8) (fun _ s9 ⟨H9,G9,I9,e9,o9,Cc,G4,zG,wU,eG,p9⟩=>?_) fun _ _ z=>z.elim)
   subst eG
   refine wpAny_pure ⟨rfl,n,Nat.lt_succ_self _,i+1,Cc,σ8,H9,G4,by lia,by lia,I9.unpinned (pins:=[]),T.keep _ _ _ kJ fun b hb o e=>(I9.pin (b,o) (List.mem_append_right _ (List.mem_append_right _ (ES hb e)))).1,fun b hb=>?_,e5.trans (e7.trans (e8.trans e9)),?_,wU,p9⟩
   ·obtain ⟨o,e,d⟩:=T.obj _ _ kJ b hb
    exact (I9.pin (b,o) (List.mem_append_right _ (List.mem_append_right _ (ES hb e)))).2.1
   ·obtain ⟨z1,z2⟩:=hle _ _ sD
    have S9:=S8.ext e9 o9
    exact ⟨fun j e h=>S9.env j e (z2 j e h),by rw [<-S9.len,z1],o9⟩
 subst hs3
 exact codeAny_compStart_list (loop _ rfl) (T.self _ 0 _ _ _ BS (loop _ rfl))
theorem Ea {Xc:Cx} {ρ:Rho} {G:Gs} {D:Addr} {acc:List Dat} {Q:Gs->Prop} (hx:Xc.xe=fun _ _=>False) (hG:G D=some (.lst acc)) (hz:acc.length<sizeLine)
  (h:WE Xc ρ G elt fun v G'=>G' D=some (.lst acc)/\Q (put G' D (.lst (acc++[v])))):Jz Xc ρ G (KU elt Xc.env (.ref D)) Q:=by
 intro pins s σ H I S
 unfold KU
 have h':=h pins s σ H I S
 rw [hx]at h'
 refine wpAny_bind (thn h' fun u s1 ⟨x,H1,I1,r1,d,G1,e1,o1,q1,IJ,z1⟩=>?_)
 obtain ⟨vs,h1,r2⟩:=o1 D _ IJ
 have:=Me (X:=Xc) pins s1 σ H1 (.ref D) [x] (.ref D) [u] (fun _ H'=>∃G',Ext H G H' G'/\GOk Xc.K H' G'/\Q G') I1 rfl (.cons r1 .nil) ⟨D,vs,x,rfl,rfl,h1,by rw [r2.length];exact hz,by
  obtain ⟨E,O⟩:=Nm o1 IJ (r2.append (RepL.cons q1 RepL.nil))
  exact ⟨_,e1.trans E,O,z1⟩⟩
 rw [hx]at this
 refine wpAny_bind (thn this fun _ s2 ⟨_,H2,I2,_,G2,e2,o2,z2⟩=>wpAny_pure ⟨H2,G2,I2,e2,o2,z2⟩)
theorem QQ {Xc:Cx} {ρ:Rho} {G:Gs} {D:Addr} {Q:Gs->Prop} (hx:Xc.xe=fun _ _=>False)
  (h:WT Xc ρ G c fun p G'=>(p=true->Jz Xc ρ G' (KU elt Xc.env (.ref D)) Q)/\(p=false->Q G')):Jz Xc ρ G (Oe c elt Xc.env (.ref D)) Q:=by
 intro pins s σ H I S
 unfold Oe
 have h':=h pins s σ H I S
 rw [hx]at h'
 refine wpAny_bind (thn h' fun p s1 ⟨H1,I1,G1,e1,o1,q1⟩=>?_)
 cases p with
 |true=>
  rw [if_pos rfl]
  exact thn (q1.1 rfl pins s1 σ H1 I1 (S.ext e1 o1)) fun _ s2 ⟨H2,G2,I2,e2,o2,z2⟩=>⟨H2,G2,I2,e1.trans e2,o2,z2⟩
 |false=>
  rw [if_neg Bool.false_ne_true]
  exact wpAny_pure ⟨H1,G1,I1,e1,o1,q1.2 rfl⟩
theorem NZ (Pv:Nat->List Dat->Gs->Prop) {Q:Dat->Gs->Prop} (ht:NR elt target iter ifs scope Ae tail) (Sc:CompSc X scope Nc caps) (B9:X.calm=true) (hi:WI X ρ G target iter fun l' G'=>l'=l/\Pv 0 [] G')
  (hg:∀C s' H' fp,PGD (Aa X Nc scope C s' H' fp) target f) (hle:∀d ρ',f d (Bb caps ρ)=some ρ'->ρ'.length=(Bb caps ρ).length/\∀(j:Nat) e,(Bb caps ρ)[j]?=some (some e)->ρ'[j]?=some (some e)) (hz:l.length≤sizeLine)
  (DW:∀C s' H' fp D i d acc G',l[i]?=some d->Pv i acc G'->G' D=none->∃ρ',f d (Bb caps ρ)=some ρ' ∧
   Jz (Aa X Nc scope C s' H' fp) ρ' (put G' D (.lst acc)) (tail (Aa X Nc scope C s' H' fp).env (.ref D)) fun VA=>∃Cc G4,Cc.length≤acc.length+1/\G4 D=none/\VA=put G4 D (.lst Cc)/\Pv (i+1) Cc G4)
  (hd:∀acc G',Pv l.length acc G'->Q (.lst acc) G') (WW:∀x,foldedSetIterable iter X.env x=pure x:=by intro _;rfl):WE X ρ G (.ListComp elt [⟨target,iter,ifs,0⟩] scope Ae) Q:=by
 intro pins s σ H I S
 rw [eval_ListComp]
 refine wpAny_comprehension_free (use:=none) rfl WW (Gb fun x hx hf=>I.ok.has x.1 (Sc.free x hx hf)) Sc.kind Sc.names ?_
 refine thn (hi pins s σ H I S) fun v s1 h1=>thn h1 fun gC s2 h2=>?_
 obtain ⟨it,fp,tn,J,H2,e,I2,T,DC,f2,l',G2,e2,o2,wk,q,p0⟩:=h2
 subst e;subst q
 refine MY (RR:=fun acc C=>compPost (model X.prog X.w) X.A X.xe none (EP X pins σ (Po X H G Q)) acc C) Pv ht Sc B9 hg hle hz DW I2 (S.ext e2 o2) T DC f2 wk p0 ?_
 rintro D C s3 sf σc Hf Gf acc k3 rfl ⟨H3,I3,f3,Ic⟩ ef of qC pf
 obtain ⟨m,hm,_⟩:=Ic.loc
 refine ⟨m,hm,fun h' hs=>⟨.ref D,Hf,Kh I3 f3 Ic hs,rfl,.lst acc,Gf,?_,?_,?_,hd acc Gf pf⟩⟩
 all_goals
  obtain ⟨E,O,R⟩:=SG (X:=X) of AL
  rw [DI qC]at E O R
  first
  |exact e2.trans (ef.trans E)
  |exact O
  |exact R
end
abbrev SpD:=List Dat->Gs->(Dat->Gs->Prop)->Prop
def BD (K:PySem.W.Frag) (S:SpD):Sp:=fun vs H Q _=>∃ds G R,GOk K H G/\RepL K (hid H G) ds vs/\S ds G R/\∀v H' d G',Ext H G H' G'->GOk K H' G'->Rep K (hid H' G') d v->R d G'->Q v H'
def G6 (N:List Str) (ds:List Dat):Rho:=ds.map some++List.replicate (N.length-ds.length) none
theorem IT {X:Cx} {H:Hp} {N:List Str} {ds:List Dat} {vs:List V} {G:Gs} (o:GOk X.K H G) (r:RepL X.K (hid H G) ds vs):Stt X H (start N vs) (G6 N ds) G:=by
 refine ⟨fun i d h=>?_,by unfold L2.start G6;rw [List.length_append,List.length_append,List.length_map,List.length_map,r.length,List.length_replicate,List.length_replicate],o⟩
 unfold G6 at h
 by_cases hi:i<ds.length
 ·rw [List.getElem?_append_left (by rw [List.length_map];exact hi),List.getElem?_map]at h
  cases q:ds[i]? with
  |none=>rw [q]at h;cases h
  |some d'=>
   rw [q]at h
   cases h
   obtain ⟨v,hv,rv⟩:=r.get q
   refine ⟨v,?_,rv⟩
   unfold L2.start
   rw [List.getElem?_append_left (by rw [List.length_map,r.length];exact hi),List.getElem?_map,hv]
   rfl
 ·rw [List.getElem?_append_right (by rw [List.length_map];lia),List.length_map]at h
  exfalso
  have:=List.mem_of_getElem? h
  rw [List.mem_replicate]at this
  cases this.2
section
variable {P:Program}{w:World}{K:PySem.W.Frag}{mg:Str->Option Value}{base:Heap}
theorem DM {x qual:Str} {st:Stmt} {f:Addr} {fd:FuncData} {N ps:List Str} {k:Nat} {S:SpD} (F:Fun K x qual st f fd) (Sc:FnScope N ps (AB st)) (hlen:∀ds G R,S ds G R->ds.length=ps.length)
  (hb:∀(BO:Value) (A:Around) (outer:List Env) (s:Shared) (H:Hp) (E:XK) (ds:List Dat) (G:Gs) (R:Dat->Gs->Prop),Room k (A.deeper (envOfC qual (AB st) s.heap.objs.size f BO))->S ds G R →
   WSs (El CX0 P w K mg base N qual (AB st) f BO A outer s H E).nox (G6 N ds) G (AH st) { nx:=fun _ G'=>R .non G',rt:=R }):FnOk P w K mg base CX0 (k+1) f fd ps (BD K S):=by
 refine F.ok Sc (fun vs H Q E h=>?_) (fun BO A outer s H vs Q E hr h=>?_)
 ·obtain ⟨ds,G,R,_,r,hS,_⟩:=h
  rw [r.length];exact hlen ds G R hS
 ·obtain ⟨ds,G,R,o,r,hS,k⟩:=h
  refine ⟨dN _ (AH st),ai,G6 N ds,G,_,hb BO A outer s H E ds G R hr hS,IT o r,?_,?_,?_,?_⟩
  ·rintro σ' H' ⟨ρ',G',e',S',q⟩
   exact k .non H' .non G' e' S'.own rfl q
  ·rintro v H' ⟨d,G',e',o',r',q⟩
   exact k v H' d G' e' o' r' q
  ·rintro σ' H' ⟨_,_,_,_,q⟩;exact q
  ·rintro σ' H' ⟨_,_,_,_,q⟩;exact q
end
section
variable {X:Cx}{ρ:Rho}{G:Gs}{e:Expr}{es:List Expr}{ds:List Dat}{pos p:Pos}{S:SpD}{k:Nat}{f:Addr}{fd:FuncData}{ps:List Str}{x:Str}{Q:Dat->Gs->Prop}
theorem YS (F:FnOk X.prog X.w X.K X.mg X.base CX0 k f fd ps (BD X.K S)) (hr:Room k X.A) (hm:X.mg x=some (.ref f)) (hk:PySem.W.keepIn X.K (.ref f)=true) (hb:Binds X.K fd ps []) (ha:PXs X ρ G (e::es) ds) (hS:S ds G Q) (hg:Gl X x:=by rfl)
  (E8:(x==("__debug__":Str))=false:=by decide) (he:starEach (e::es) X.env=(false,eval e X.env)::starEach es X.env:=by rfl) (hpl:(backTo pos (starEach es X.env)).any (·.1)=false:=by rfl):WE X ρ G (.Call (.Name x p) (e::es) [] pos) Q:=
 Ba (Rh F hr hg hm hk hb .nil ZL Kd E8 he hpl) fun σ H St=>⟨ρ,G,_,ha,St,fun vs H1 ⟨_,_,e1,o1,r1,q1,Bp⟩=>by
  subst q1;subst Bp
  refine ⟨_,_,Q,o1,by rw [List.append_nil];exact r1,hS,fun v H' d G' e' o' r' q'=>⟨d,G',e1.trans e',o',r',q'⟩⟩⟩
end
structure Df (P:Program) (w:World) (K:PySem.W.Frag) (mg:Str->Option Value) (base:Heap) (x:Str) (ps:List Str) (k:Nat) (S:SpD):Prop where
 ex:∃f fd,FnOk P w K mg base CX0 k f fd ps (BD K S)/\mg x=some (.ref f)/\PySem.W.keepIn K (.ref f)=true/\Binds K fd ps []
section
variable {X:Cx}{ρ:Rho}{G:Gs}{e:Expr}{es:List Expr}{ds:List Dat}{pos p:Pos}{S:SpD}{k:Nat}{ps:List Str}{x:Str}{Q:Dat->Gs->Prop}
theorem A6 (F:Df X.prog X.w X.K X.mg X.base x ps k S) (hr:Room k X.A) (ha:PXs X ρ G (e::es) ds) (hS:S ds G Q) (hg:Gl X x:=by rfl)
  (E8:(x==("__debug__":Str))=false:=by decide) (he:starEach (e::es) X.env=(false,eval e X.env)::starEach es X.env:=by rfl) (hpl:(backTo pos (starEach es X.env)).any (·.1)=false:=by rfl):WE X ρ G (.Call (.Name x p) (e::es) [] pos) Q:=by
 obtain ⟨f,fd,F,hm,hk,hb⟩:=F.ex
 exact YS F hr hm hk hb ha hS hg E8 he hpl
end
mutual
def Dat.same:Dat->Dat->Bool
 |.non,.non=>true
 |.bl a,.bl b=>a==b
 |.int a,.int b=>a==b
 |.str a,.str b=>a==b
 |.fn a,.fn b=>a==b
 |.scr a,.scr b=>a==b
 |.tup l,.tup m=>Dat.sameL l m
 |.lst l,.lst m=>Dat.sameL l m
 |_,_=>false
def Dat.sameL:List Dat->List Dat->Bool
 |[],[]=>true
 |x::xs,y::ys=>Dat.same x y&&Dat.sameL xs ys
 |_,_=>false
end
mutual
theorem Dat.same_eq:∀{a b:Dat},Dat.same a b=true->a=b
 |.non,b,h=>by cases b<;>simp_all [Dat.same]
 |.bl _,b,h=>by cases b<;>simp_all [Dat.same]
 |.int _,b,h=>by cases b<;>simp_all [Dat.same]
 |.str _,b,h=>by cases b<;>simp_all [Dat.same]
 |.fn _,b,h=>by cases b<;>simp_all [Dat.same]
 |.scr _,b,h=>by cases b<;>simp_all [Dat.same]
 |.tup l,b,h=>by
  cases b<;>simp only [Dat.same,Bool.false_eq_true]at h
  rw [Dat.sameL_eq h]
 |.lst l,b,h=>by
  cases b<;>simp only [Dat.same,Bool.false_eq_true]at h
  rw [Dat.sameL_eq h]
theorem Dat.sameL_eq:∀{a b:List Dat},Dat.sameL a b=true->a=b
 |[],b,h=>by cases b<;>simp_all [Dat.sameL]
 |x::xs,b,h=>by
  cases b with
  |nil=>simp [Dat.sameL]at h
  |cons y ys=>
   simp only [Dat.sameL,Bool.and_eq_true]at h
   rw [Dat.same_eq h.1,Dat.sameL_eq h.2]
end
mutual
theorem Dat.same_refl:∀(a:Dat),Dat.same a a=true
 |.non=>by simp [Dat.same]
 |.bl _=>by simp [Dat.same]
 |.int _=>by simp [Dat.same]
 |.str _=>by simp [Dat.same]
 |.fn _=>by simp [Dat.same]
 |.scr _=>by simp [Dat.same]
 |.tup l=>by simp only [Dat.same];exact Dat.sameL_refl l
 |.lst l=>by simp only [Dat.same];exact Dat.sameL_refl l
theorem Dat.sameL_refl:∀(a:List Dat),Dat.sameL a a=true
 |[]=>by simp [Dat.sameL]
 |x::xs=>by simp only [Dat.sameL,Bool.and_eq_true];exact ⟨Dat.same_refl x,Dat.sameL_refl xs⟩
end
instance:DecidableEq Dat:=fun a b=>decidable_of_iff (Dat.same a b=true) ⟨Dat.same_eq,fun h=>h▸Dat.same_refl a⟩
theorem Di:∀{n:Nat} {d:Dat},CH n d=true->AG n d=true:=by
 intro n
 induction n with
 |zero=>intro d h;cases d<;>simp_all [CH,AG,Ac]
 |succ n ih=>
  intro d h
  cases d<;>simp only [CH,Bool.false_eq_true]at h<;>first|rfl|skip
  simp only [AG,List.all_eq_true]at h ⊢
  exact fun x hx=>ih (h x hx)
theorem Xs:∀{n:Nat} {d e:Dat},CH n d=true->CH n e=true->eqD d e=decide (d=e):=by
 intro n
 induction n with
 |zero=>
  intro d e h h'
  cases d<;>simp only [CH,Bool.false_eq_true]at h<;>cases e<;>simp only [CH,Bool.false_eq_true]at h'
  rename_i a b
  by_cases z:a=b<;>simp [eqD,z]
 |succ n ih=>
  have hl:∀(l m:List Dat),l.all (CH n)=true->m.all (CH n)=true->eqL l m=decide (l=m):=by
   intro l
   induction l with
   |nil=>intro m _ _;cases m<;>simp [eqL]
   |cons x l gJ=>
    intro m h h'
    cases m with
    |nil=>simp [eqL]
    |cons y m=>
     simp only [List.all_cons,Bool.and_eq_true]at h h'
     rw [eqL,ih h.1 h'.1,gJ m h.2 h'.2]
     by_cases z1:x=y<;>by_cases z2:l=m<;>simp [z1,z2]
  intro d e h h'
  cases d<;>simp only [CH,Bool.false_eq_true]at h<;>cases e<;>simp only [CH,Bool.false_eq_true]at h'
  ·rename_i a b
   by_cases z:a=b<;>simp [eqD,z]
  ·simp [eqD]
  ·simp [eqD]
  ·rename_i l m
   rw [eqD,hl l m h h']
   by_cases z:l=m<;>simp [z]
mutual
def Ir:Dat->Nat
 |.tup l=>Ez l+1
 |_=>1
def Ez:List Dat->Nat
 |[]=>0
 |d::r=>Ir d+Ez r
end
theorem Hd:∀(a b:List Dat),DX (a++b)=DX a++DX b
 |[],_=>by simp [DX]
 |d::a,b=>by simp only [List.cons_append,DX];rw [Hd a b]
theorem Hx:∀(a b:List Dat),Ez (a++b)=Ez a+Ez b
 |[],_=>by simp [Ez]
 |d::a,b=>by simp only [List.cons_append,Ez];rw [Hx a b];lia
section
variable {prog:Program}{w:World}
theorem XQ:∀(n:Nat) {A:Around} {E:Value->Shared->Prop} {s:Shared} {d:Dat} {u:Value} {Q:Int->Shared->Prop},CH n d=true->AtH s.heap d u->A.units+n<cLine->Q (Dm d) { s with toks:=s.toks+Ir d } →
  wpAny (model prog w) A (pyHash u) Q E s:=by
 have O4:∀{A:Around} {E:Value->Shared->Prop} {s:Shared} {i:Int} {u:Value} {Q:Int->Shared->Prop},AtH s.heap (.int i) u->Q (Dm (.int i)) { s with toks:=s.toks+Ir (.int i) }->wpAny (model prog w) A (pyHash u) Q E s:=by
  intro A E s i u Q r h
  rw [AtH]at r
  obtain ⟨t,rfl⟩:=r
  rw [Dm,Ir]at h
  ·exact wpAny_pyHash_int h
  ·intro l;exact nofun
 intro n
 induction n with
 |zero=>
  intro A E s d u Q hk r hu h
  cases d<;>simp only [CH,Bool.false_eq_true]at hk
  exact O4 r h
 |succ n ih=>
  intro A E s d u Q hk r hu h
  cases d<;>simp only [CH,Bool.false_eq_true]at hk
  ·exact O4 r h
  rename_i l
  rw [AtH]at r
  obtain ⟨a,its,rfl,ht,hi⟩:=r
  have hT:s.TypeIs (.ref a) "tuple":=let ⟨o,ho,hc,_⟩:=ht;⟨o,ho,hc⟩
  obtain ⟨o,ho,_,m,hd⟩:=ht
  unfold pyHash
  first|unfold pyHashByItsType|skip
  first|refine wpAny_bind (wpAny_cRoomFor_or (.inr (by lia)) ?_)|skip
  refine wpAny_bind (wpAny_specialOf hT F.slot_tuple_hash.lookup ?_)
  show wpAny _ _ (if (some (Value.builtin "tuple.__hash__")==some Value.none)=true then _ else _) Q E s
  rw [if_neg (by rw [beq_builtin_none];exact Bool.false_ne_true)]
  refine wpAny_bind (wpAny_specialOf hT F.slot_tuple_hash.lookup ?_)
  show wpAny _ _ (callSpecialIfBoundUnlessNone? (.ref a) "__hash__" _ >>= _) Q E s
  refine wpAny_bind (wpAny_callSpecialIfBoundUnlessNone?_slot hT F.slot_tuple_hash (wpAny_call_entry F.slot_tuple_hash hT F.entry_tuple_hash ?_ (F.args_tuple_hash_1 _)))
  show wpAny _ _ (Builtin.Tuple.tupleItemsOf (.ref a) >>= _) _ _ s
  refine wpAny_bind (wpAny_tupleItemsOf ho hd ?_)
  refine wpAny_bind ?_
  rw [<-Array.forIn_toList]
  refine wpAny_forIn_list _
   (fun rest (b:Array Int) s'=>∃done left,l=done++left/\AtL s.heap left rest/\b.toList=DX done/\s'={ s with toks:=s.toks+Ez done })
   _ ?_ ?_ _ _ ⟨[],l,rfl,hi,rfl,rfl⟩
  ·rintro x rest b s' ⟨done,left,rfl,hl,hb,rfl⟩
   cases left with
   |nil=>rw [AtL]at hl;cases hl
   |cons k Fu=>
    rw [AtL]at hl
    obtain ⟨u,r,e,h1,XG⟩:=hl
    cases e
    have Wq:CH n k=true:=by
     have:=List.all_eq_true.mp hk k (by simp)
     exact this
    refine wpAny_bind (ih Wq h1 (by show A.units+1+n<cLine;lia) ?_)
    have fin:∃Vf ZX,done++k::Fu=Vf++ZX/\AtL s.heap ZX rest/\(b.push (Dm k)).toList=DX Vf/\({ s with toks:=s.toks+Ez done+Ir k }:Shared)={ s with toks:=s.toks+Ez Vf }:=
     ⟨done++[k],Fu,by simp,XG,by simp [hb,Hd,DX],by rw [Hx];simp [Ez,Nat.add_assoc]⟩
    first
     |exact wpAny_pure fin
     |exact wpAny_bind (wpAny_pure (wpAny_pure fin))
  ·rintro b s' ⟨done,left,rfl,hl,hb,rfl⟩
   cases left with
   |cons k Fu=>rw [AtL]at hl;obtain ⟨_,_,e,_⟩:=hl;cases e
   |nil=>
    rw [List.append_nil,Dm,Ir]at h
    show wpAny _ _ (retInt (Builtin.Tuple.tupleHashOf b.toList)) _ _ _
    rw [hb]
    refine wpAny_ret_mkInt ?_
    show wpAny _ _ (if (decide (-(2:Int) ^ 63≤Builtin.Tuple.tupleHashOf (DX done))&&decide (Builtin.Tuple.tupleHashOf (DX done)<2 ^ 63))=true then _ else _) Q E _
    unfold reduceHash at h
    by_cases hr:(decide (-(2:Int) ^ 63≤Builtin.Tuple.tupleHashOf (DX done))&&decide (Builtin.Tuple.tupleHashOf (DX done)<2 ^ 63))=true
    ·rw [if_pos hr]
     rw [if_pos hr]at h
     exact wpAny_pure (by simpa [Nat.add_assoc]using h)
    ·rw [if_neg hr]
     rw [if_neg hr]at h
     exact wpAny_bind (wpAny_rule (wpAny_pure (by simpa [Nat.add_assoc]using h)))
theorem WM:∀(n m:Nat) {A:Around} {E:Value->Shared->Prop} {s:Shared} {d:Dat} {u:Value} {Q:Bool->Shared->Prop},n≤m->CH n d=true->AtH s.heap d u->Q true s->wpAny (model prog w) A (eqIsQuiet m u) Q E s:=by
 have O4:∀{m:Nat} {A:Around} {E:Value->Shared->Prop} {s:Shared} {i:Int} {u:Value} {Q:Bool->Shared->Prop},AtH s.heap (.int i) u->Q true s->wpAny (model prog w) A (eqIsQuiet m u) Q E s:=by
  intro m A E s i u Q r h
  rw [AtH]at r
  obtain ⟨t,rfl⟩:=r
  rw [eqIsQuiet_byValue m rfl]
  exact wpAny_pure h
 intro n
 induction n with
 |zero=>
  intro m A E s d u Q _ hk r h
  cases d<;>simp only [CH,Bool.false_eq_true]at hk
  exact O4 r h
 |succ n ih=>
  intro m A E s d u Q hm hk r h
  cases d<;>simp only [CH,Bool.false_eq_true]at hk
  ·exact O4 r h
  rename_i l
  obtain ⟨m',rfl⟩:∃m',m=m'+1:=⟨m-1,by lia⟩
  rw [AtH]at r
  obtain ⟨a,its,rfl,ht,hi⟩:=r
  have hT:s.TypeIs (.ref a) "tuple":=let ⟨o,ho,hc,_⟩:=ht;⟨o,ho,hc⟩
  obtain ⟨o,ho,_,q,hd⟩:=ht
  unfold eqIsQuiet
  refine wpAny_bind (wpAny_specialOf hT F.slot_tuple_eq.lookup ?_)
  show wpAny _ _ (isInstance (.ref a) (.type "tuple") >>= _) _ _ s
  refine wpAny_bind (wpAny_isInstance hT isSubtype_tuple_tuple ?_)
  simp only [Bool.not_true,Bool.false_eq_true,if_false]
  refine wpAny_bind (wpAny_seqItems ho hd ?_)
  refine wpAny_bind ?_
  show wpAny _ _ (forIn its.toArray _ _) _ _ s
  rw [<-Array.forIn_toList]
  refine wpAny_forIn_list _ (fun rest r s'=>r.1=none/\s'=s/\∃left,AtL s.heap left rest/\left.all (CH n)=true) _ ?_ ?_ _ _ ⟨rfl,rfl,l,hi,hk⟩
  ·rintro v rest r s' ⟨hr,rfl,left,hl,Eo⟩
   cases left with
   |nil=>rw [AtL]at hl;cases hl
   |cons k ks=>
    rw [AtL]at hl
    obtain ⟨u,r',e,h1,XG⟩:=hl
    cases e
    simp only [List.all_cons,Bool.and_eq_true]at Eo
    refine wpAny_bind (ih m' (by lia) Eo.1 h1 ?_)
    simp only [Bool.not_true,Bool.false_eq_true,if_false]
    exact wpAny_pure ⟨rfl,rfl,ks,XG,Eo.2⟩
  ·rintro ⟨r1,r2⟩ s' ⟨hr,rfl,_⟩
   simp only at hr
   subst hr
   exact wpAny_pure h
def SH (h:Heap) (k:Dat) (a:Addr):Prop:=CH 6 k=true/\AtH h k (.ref a)
mutual
theorem AtH.keeps {h h':Heap} {d:Addr} {o:Obj} {es ep} (ho:h.get? d=some o) (hd:o.data=.dict es ep) (hs:Heap.SameBut d h h'):∀{k:Dat} {u:Value},AtH h k u->AtH h' k u
 |.non,_,r=>by rw [AtH]at r ⊢;exact r
 |.bl _,_,r=>by rw [AtH]at r ⊢;exact r
 |.int _,_,r=>by rw [AtH]at r ⊢;exact r
 |.str _,_,r=>by rw [AtH]at r ⊢;exact r
 |.fn _,_,r=>by rw [AtH]at r ⊢;exact r
 |.scr _,_,r=>by rw [AtH]at r;exact r.elim
 |.tup l,_,r=>by
  rw [AtH]at r ⊢
  obtain ⟨a,its,e,⟨o',h1,h2,n,h3⟩,h4⟩:=r
  have Co:a≠d:=by
   rintro rfl
   rw [ho]at h1;cases h1
   rw [hd]at h3;cases h3
  exact ⟨a,its,e,⟨o',(hs.2 a Co).trans h1,h2,n,h3⟩,AtL.keeps ho hd hs h4⟩
 |.lst l,_,r=>by
  rw [AtH]at r ⊢
  obtain ⟨a,its,e,⟨o',h1,h2,n,h3⟩,h4⟩:=r
  have Co:a≠d:=by
   rintro rfl
   rw [ho]at h1;cases h1
   rw [hd]at h3;cases h3
  exact ⟨a,its,e,⟨o',(hs.2 a Co).trans h1,h2,n,h3⟩,AtL.keeps ho hd hs h4⟩
theorem AtL.keeps {h h':Heap} {d:Addr} {o:Obj} {es ep} (ho:h.get? d=some o) (hd:o.data=.dict es ep) (hs:Heap.SameBut d h h'):∀{k:List Dat} {u:List Value},AtL h k u->AtL h' k u
 |[],_,r=>by rw [AtL]at r ⊢;exact r
 |_::_,_,r=>by
  rw [AtL]at r ⊢
  obtain ⟨u,q,e,h1,h2⟩:=r
  exact ⟨u,q,e,AtH.keeps ho hd hs h1,AtL.keeps ho hd hs h2⟩
end
def Dq (prog:Program) (w:World):HeapKind prog w Dat where
 is:=SH
 hash:=Dm
 draws:=Ir
 room:=fun A=>A.units+6<cLine
 inj:=fun hx hy=>AtH.inj 6 (Di hx.1) (Di hy.1) hx.2 hy.2
 keeps:=fun x ho hd hs=>⟨x.1,x.2.keeps ho hd hs⟩
 pyHash:=fun hu hk h=>XQ 6 hk.1 hk.2 hu h
 eqBool:=fun hu hx hy h=>(IL 6 (Di hx.1) (Di hy.1) hx.2 hy.2 hu).1 _ _ _ _ (by rw [Xs hx.1 hy.1];exact h)
 quiet:=fun hk h=>WM 6 8 (by decide) hk.1 hk.2 h
end
def A2 (kvs:List (Dat×Dat)) (k:Dat):Option Dat:=(kvs.find? fun x=>decide (x.1=k)).map (·.2)
def GO (kvs:List (Dat×Dat)) (k v:Dat):List (Dat×Dat):=if (A2 kvs k).isSome then kvs.map (fun x=>if x.1=k then (x.1,v)else x)else kvs++[(k,v)]
theorem PV {kvs:List (Dat×Dat)} {k v:Dat} (h:A2 kvs k=none):GO kvs k v=kvs++[(k,v)]:=by simp [GO,h]
theorem DRep.length {K:PySem.W.Frag} {H:Hp}:∀{kvs:List (Dat×Dat)} {xs:List (Dat×Addr×Value)},DRep K H kvs xs->xs.length=kvs.length
 |[],_,h=>by rw [DRep]at h;subst h;rfl
 |(k,d)::r,_,h=>by
  rw [DRep]at h
  obtain ⟨a,u,L5,rfl,_,_,_,h6⟩:=h
  rw [List.length_cons,List.length_cons,DRep.length h6]
theorem DRep.keys {K:PySem.W.Frag} {H:Hp}:∀{kvs:List (Dat×Dat)} {xs:List (Dat×Addr×Value)},DRep K H kvs xs->∀x∈xs,CH 6 x.1=true/\Rep K H x.1 (.ref x.2.1)
 |[],_,h,x,hx=>by rw [DRep]at h;subst h;cases hx
 |(k,d)::r,_,h,x,hx=>by
  rw [DRep]at h
  obtain ⟨a,u,L5,rfl,h2,h3,_,h6⟩:=h
  rcases List.mem_cons.mp hx with e|hx
  ·subst e;exact ⟨h2,h3⟩
  ·exact DRep.keys h6 x hx
theorem DRep.look {K:PySem.W.Frag} {H:Hp} (k:Dat):∀{kvs:List (Dat×Dat)} {xs:List (Dat×Addr×Value)},DRep K H kvs xs->(A2 kvs k).isSome=(atKey xs k).isSome/\∀d,A2 kvs k=some d->∃p v,atKey xs k=some p/\RelV v p.2/\Rep K H d v
 |[],_,h=>by rw [DRep]at h;subst h;exact ⟨rfl,fun d e=>by simp [A2]at e⟩
 |(k',d')::r,_,h=>by
  rw [DRep]at h
  obtain ⟨a,u,L5,rfl,_,_,⟨v,h4,h5⟩,h6⟩:=h
  by_cases e:k'=k
  ·subst e
   refine ⟨by simp [A2,atKey],fun d hd=>⟨(a,u),v,by simp [atKey],h4,?_⟩⟩
   simp [A2]at hd
   subst hd
   exact h5
  ·have:=DRep.look k h6
   have e1:A2 ((k',d')::r) k=A2 r k:=by simp [A2,e]
   have e2:atKey ((k',a,u)::L5) k=atKey L5 k:=by simp [atKey,e]
   rw [e1,e2]
   exact this
theorem DRep.put {K:PySem.W.Frag} {H:Hp} {k d:Dat} {a:Addr} {u:Value} {v:V} (hk:CH 6 k=true) (ra:Rep K H k (.ref a)) (ru:RelV v u) (rd:Rep K H d v) {kvs:List (Dat×Dat)} {xs:List (Dat×Addr×Value)} (h:DRep K H kvs xs) :
  DRep K H (GO kvs k d) (storedH xs k a u):=by
 have look:=(DRep.look k h).1
 have app:∀{kvs:List (Dat×Dat)} {xs:List (Dat×Addr×Value)},DRep K H kvs xs->DRep K H (kvs++[(k,d)]) (xs++[(k,a,u)]):=by
  intro kvs
  induction kvs with
  |nil=>intro xs h;rw [DRep]at h;subst h;exact ⟨a,u,[],rfl,hk,ra,⟨v,ru,rd⟩,rfl⟩
  |cons p r ih=>
   intro xs h
   obtain ⟨k',d'⟩:=p
   rw [DRep]at h
   obtain ⟨a',u',L5,rfl,h2,h3,h4,h6⟩:=h
   exact ⟨a',u',_,rfl,h2,h3,h4,ih h6⟩
 have map:∀{kvs:List (Dat×Dat)} {xs:List (Dat×Addr×Value)},DRep K H kvs xs->DRep K H (kvs.map fun x=>if x.1=k then (x.1,d)else x) (xs.map (putAt k u)):=by
  intro kvs
  induction kvs with
  |nil=>intro xs h;rw [DRep]at h;subst h;rfl
  |cons p r ih=>
   intro xs h
   obtain ⟨k',d'⟩:=p
   rw [DRep]at h
   obtain ⟨a',u',L5,rfl,h2,h3,h4,h6⟩:=h
   rw [List.map_cons,List.map_cons]
   by_cases e:k'=k
   ·simp only [e,if_true,putAt]
    subst e
    exact ⟨a',u,_,rfl,h2,h3,⟨v,ru,rd⟩,ih h6⟩
   ·simp only [e,if_false,putAt]
    exact ⟨a',u',_,rfl,h2,h3,h4,ih h6⟩
 unfold GO storedH
 rw [look]
 by_cases e:(atKey xs k).isSome=true
 ·rw [if_pos e,if_pos e];exact map h
 ·rw [if_neg e,if_neg e];exact app h
section
variable {X:Cx}{pins:List (Addr×Obj)}{σ:St}{H:Hp}{s:Shared}{p:Addr}{G:Gs}{kvs:List (Dat×Dat)}{xs:List (Dat×Addr×Value)}
theorem Inv.big (I:Inv X pins σ H s):sysModules<s.heap.objs.size:=by
 have h:mainGlobals<s.heap.objs.size:=(I.mod.glob.keeps I.bk).lt
 exact Nat.lt_trans (by decide) h
theorem LH (I:Inv X pins σ H s) {k:Dat} {a:Addr} (hk:CH 6 k=true) (r:Rep X.K H k (.ref a)):SH s.heap k a:=⟨hk,r.at I (Di hk) rfl⟩
theorem Ha (I:Inv X pins σ H s) (h:H p=some (Gv p xs)) (r:DRep X.K H kvs xs):(p==sysModules)=false/\xs.length≤sizeLine/\s.heap.DictOfH (Dq X.prog X.w) p xs:=by
 obtain ⟨⟨h1,h2,h3,o,es,ep,h4,h5,h6,h7⟩,_,_⟩:=(show ObjOk X.prog X.w H s.heap p (.ext (KI p xs))from I.hok p _ h)
 exact ⟨h1,h2,o,es,ep,h4,h5,h6,h7,fun x hx=>LH I (r.keys x hx).1 (r.keys x hx).2,h3⟩
theorem P1 {P:Program} {w:World} {H:Hp} {h:Heap} (d:KI p xs h):ObjOk P w H h p (Gv p xs):=by
 obtain ⟨h1,h2,h3,o,es,ep,h4,h5⟩:=id d
 exact ⟨d,⟨o,h4⟩,fun k1 k2 ⟨g1,g2,g3,o',Gu,XD,g4,g5⟩ hk=>⟨g1,g2,g3,o',Gu,XD,hk _ g4,g5⟩⟩
theorem XH {L5:List (Dat×Addr×Value)} {DD:List (Dat×Dat)} (o:GOk X.K H G) (hG:G p=some (.dct kvs)) (r:DRep X.K (hid H G) DD L5):Ext H G (upd H p (Gv p L5)) (put G p (.dct DD))/\GOk X.K (upd H p (Gv p L5)) (put G p (.dct DD)):=by
 have E:Ext H G (upd H p (Gv p L5)) (put G p (.dct DD)):=⟨fun b u e h=>by
  have:b≠p:=by rintro rfl;rw [hG]at h;cases h
  rw [AN this];exact e,fun b h=>by
  by_cases hb:b=p
  ·subst hb;left;rw [hG];exact nofun
  ·rw [Cj hb]at h;exact .inl h⟩
 refine ⟨E,fun b u q=>?_⟩
 by_cases hb:b=p
 ·subst hb
  rw [AL]at q
  cases q
  exact ⟨L5,Ar,r.same E.hid⟩
 ·rw [Cj hb]at q
  exact (o b u q).ext E.hid (AN hb)
theorem WJ (o:GOk X.K H G) (hp:H p=none):Ext H G (upd H p (Gv p [])) (put G p (.dct []))/\GOk X.K (upd H p (Gv p [])) (put G p (.dct [])):=by
 have E:Ext H G (upd H p (Gv p [])) (put G p (.dct [])):=⟨fun b u e _=>by rw [AN (AK e hp)];exact e,fun b h=>by
  by_cases hb:b=p
  ·subst hb;exact .inr hp
  ·rw [Cj hb]at h;exact .inl h⟩
 refine ⟨E,fun b u q=>?_⟩
 by_cases hb:b=p
 ·subst hb
  rw [AL]at q
  cases q
  exact ⟨[],Ar,rfl⟩
 ·rw [Cj hb]at q
  exact (o b u q).ext E.hid (AN hb)
end
section
variable {X:Cx}{ρ:Rho}{G:Gs}{e a b c:Expr}{d k:Dat}{p:Addr}{kvs:List (Dat×Dat)}{pos:Pos}
theorem Pz (hu:X.A.units+9<cLine) (ha:PX X ρ G a k) (hb:PX X ρ G b (.fn p)) (hG:G p=some (.dct kvs)) (hk:CH 6 k=true) (hr:∃l,k=.tup l):PXC X ρ G .NotIn a b (.bl (!(A2 kvs k).isSome)):=by
 intro pins s σ H I S
 refine thn (ha pins s σ H I S) fun v s1 ⟨x,H1,I1,rx,_,_,e1,o1,r1,q1,Bp⟩=>?_
 subst q1;subst Bp
 refine thn (hb pins s1 σ H1 I1 (S.ext e1 o1)) fun u s2 ⟨y,H2,I2,ry,_,_,e2,o2,r2,q2,Ek⟩=>?_
 subst q2;subst Ek
 cases (show y=V.ref p from r2)
 cases ry
 obtain ⟨l,rfl⟩:=hr
 have Y4:=(r1.same e2.hid).same AJ
 have hx:∃t,x=V.ref t:=by rw [Rep]at Y4;obtain ⟨t,_,e,_⟩:=Y4;exact ⟨t,e⟩
 obtain ⟨t,rfl⟩:=hx
 cases rx
 obtain ⟨xs,h3,r3⟩:=o2 p _ hG
 obtain ⟨z1,z2,dd⟩:=Ha I2 h3 (r3.same AJ)
 refine wpAny_notIn_heap (knd:=Dq X.prog X.w) (show X.A.units+1+6<cLine by lia) (LH I2 hk Y4) z1 dd ⟨.bl _,H2,I2.tok _,rfl,.bl _,_,e1.trans e2,o2,?_,rfl,rfl⟩
 rw [<-(DRep.look _ r3).1]
 rfl
end
section
variable {X:Cx}
def oE (K:PySem.W.Frag):V->Option Int->Option Int->Hp->VK->Prop:=fun x lo hi H Q=>∃a xs,x=.ref a/\SqT K H a xs/\(JV xs lo hi=xs->Q (.ref a) H)/\∀p,H p=none->Q (.ref p) (upd H p (.tup (JV xs lo hi)))
theorem YI:SlR X (oE X.K):=by
 intro pins s σ H x v vl vu lo hi sl Q I rx hs pl pu h
 obtain ⟨a,xs,rfl,hx,q1,q2⟩:=h
 by_cases hw:HT.sIx xs.length 0 lo=0/\HT.sIx xs.length xs.length hi=xs.length
 ·cases rx
  obtain ⟨its,r,ht,hz⟩:=I.tuple hx
  have hlen:its.toArray.size=xs.length:=by rw [List.size_toArray];exact r.length.symm
  have cut:JV xs lo hi=xs:=by unfold JV;rw [hw.1,hw.2];simp
  refine ⟨"tuple",_,PyProof.Rows.slot_tuple_getitem.lookup,ht.typeIs,?_⟩
  obtain ⟨os,Ju,gi,gT⟩:=id hs
  have lr:s.TypeIs (.ref sl) "slice":=⟨os,Ju,gi⟩
  unfold getItem
  try with_reducible refine wpAny_holding ?_
  first|refine wpAny_bind (wpAny_pure ?_)|skip
  refine wpAny_bind (wpAny_sequenceKey ht.typeIs (by decide) ?_)
  refine wpAny_bind (wpAny_callSpecial?_slot (name:=Str.ofString "__getitem__") ht.typeIs PyProof.Rows.slot_tuple_getitem
   (wpAny_call_entry PyProof.Rows.slot_tuple_getitem ht.typeIs entry_tuple_getitem ?_ (args_tuple_getitem _ _)))
  show wpAny _ _ (Builtin.Tuple.tupleItemsOf (.ref a) >>= _) _ _ s
  refine wpAny_bind (tupleItemsOf_ ht ?_)
  refine wpAny_bind (wpAny_typeOf lr ?_)
  rw [if_pos (by decide)]
  refine wpAny_bind (HT.sliceApplied_gen hs pl pu ?_)
  have j9:(((HT.sIx its.toArray.size 0 lo:Nat):Int)==0&&(1:Int)==1&&(HT.sIx its.toArray.size its.toArray.size hi-HT.sIx its.toArray.size 0 lo)==its.toArray.size)=true:=by
   rw [hlen,hw.1,hw.2]
   simp
  show wpAny _ _ (if (((HT.sIx its.toArray.size 0 lo:Nat):Int)==0&&(1:Int)==1&&(HT.sIx its.toArray.size its.toArray.size hi-HT.sIx its.toArray.size 0 lo)==its.toArray.size)=true then _ else _) _ _ s
  rw [if_pos j9]
  refine wpAny_bind ?_
  unfold Builtin.Tuple.tupleIsExact
  refine wpAny_bind (wpAny_typeOf ht.typeIs (wpAny_pure ?_))
  rw [if_pos (by decide)]
  exact wpAny_bind (wpAny_rule (wpAny_pure ⟨_,rfl,wpAny_pure ⟨.ref a,H,I,rfl,q1 cut⟩⟩))
 ·exact bF pins s σ H (.ref a) v vl vu lo hi sl Q I rx hs pl pu ⟨a,xs,rfl,hx,hw,q2⟩
end
theorem JC (kvs:List (Dat×Dat)) (k v:Dat):(GO kvs k v).length≤kvs.length+1:=by
 unfold GO
 split
 ·rw [List.length_map];lia
 ·rw [List.length_append,List.length_singleton];exact Nat.le_refl _
section
variable {X:Cx}{ρ:Rho}{G:Gs}{e a b c:Expr}{es:List Expr}{d d' d1 d2 k:Dat}{ds l m:List Dat}{pos:Pos}{i j:Int}{p:Addr}{kvs:List (Dat×Dat)}{D:DE}{rest:List Stmt}
def PXo (X:Cx) (ρ:Rho) (G:Gs) (e:Option Expr) (o:Option Int):Prop:=match e,o with
 |none,none=>True
 |some e,some i=>PX X ρ G e (.int i)
 |_,_=>False
def LN (l:List Dat) (lo hi:Option Int):List Dat:=(l.drop (HT.sIx l.length 0 lo)).take (HT.sIx l.length l.length hi-HT.sIx l.length 0 lo)
def tWo (X:Cx) (e:Option Expr):TO:=fun σ H Q'=>∃ρ G o,PXo X ρ G e o/\Stt X H σ ρ G/\∀H',Ext H G H' G->GOk X.K H' G->Q' o H'
theorem Lv {e:Option Expr}:PO X e (tWo X e):=by
 intro pins s σ H Q I ⟨ρ,G,o,h,S,k⟩
 cases e with
 |none=>
  cases o with
  |none=>exact YM pins s σ H Q I (k H Ext.refl S.own)
  |some i=>exact h.elim
 |some e=>
  cases o with
  |none=>exact h.elim
  |some i=>
   refine Xo (Ak (X:=X) (e:=e)) pins s σ H Q I ⟨ρ,G,_,h,S,fun v H' ⟨d,G',e',o',r',q1,q2⟩=>?_⟩
   subst q1;subst q2
   exact ⟨i,r',k H' e' o'⟩
theorem Ms {K:PySem.W.Frag} {H:Hp} {vs:List V} {lo hi:Option Int} (r:RepL K H l vs):RepL K H (LN l lo hi) (JV vs lo hi):=by
 unfold LN JV
 rw [r.length]
 exact (r.drop _).take _
theorem S1 {lo hi:Option Expr} {p2:Pos} {ol oh:Option Int} (ha:PX X ρ G a (.tup l)) (hl:PXo X ρ G lo ol) (hh:PXo X ρ G hi oh):PX X ρ G (.Subscript a (.Slice lo hi none p2) pos) (.tup (LN l ol oh)):=
 Ba (LU YI Ak Lv Lv) fun σ H S=>⟨ρ,G,_,ha,S,fun x H1 ⟨_,_,e1,o1,r1,q1,Bp⟩=>by
  subst q1;subst Bp
  refine ⟨ρ,_,ol,hl,S.ext e1 o1,fun H2 e2 o2=>⟨ρ,_,oh,hh,S.ext (e1.trans e2) o2,fun H3 e3 o3=>?_⟩⟩
  have r3:=r1.same (e2.trans e3).hid
  have yu:=r3
  rw [Rep]at r3
  obtain ⟨p,vs,e4,h4,r4⟩:=r3
  refine ⟨p,vs,e4,Af AJ h4,fun z=>?_,fun t ht=>Po.trans (e1.trans (e2.trans e3)) (Jn o3 ht (Ms r4))⟩
  refine Po.trans (e1.trans (e2.trans e3)) (BL o3 ?_)
  rw [Rep]
  exact ⟨p,vs,rfl,h4,by have:=Ms (lo:=ol) (hi:=oh) r4;rw [z]at this;exact this⟩⟩
theorem aF {Q:List Dat->Gs->Prop} (h:Q [] G):WA X ρ G [] Q:=SF D3 fun σ H S=>⟨[],G,Ext.refl,S.own,RepL.nil,h⟩
theorem RG {Q:List Dat->Gs->Prop} (h:WE X ρ G e fun d G1=>WA X ρ G1 es fun ds G2=>Q (d::ds) G2) (hs:starEach (e::es) X.env=(false,eval e X.env)::starEach es X.env:=by rfl):WA X ρ G (e::es) Q:=
 SF (B3 Ak Kd hs) fun σ H S=>⟨ρ,G,_,h,S,fun x H1 ⟨d,G1,e1,o1,r1,w1⟩=>⟨ρ,G1,_,w1,S.ext e1 o1,fun xs H2 ⟨ds,G2,e2,o2,r2,q2⟩=>⟨d::ds,G2,e1.trans e2,o2,RepL.cons (r1.same e2.hid) r2,q2⟩⟩⟩
theorem bK {S:SpD} {kk:Nat} {ps:List Str} {x:Str} {pp:Pos} {Q:Dat->Gs->Prop} (F:Df X.prog X.w X.K X.mg X.base x ps kk S) (hr:Room kk X.A) (ha:WA X ρ G (e::es) fun ds G'=>S ds G' Q) (hg:Gl X x:=by rfl)
  (E8:(x==("__debug__":Str))=false:=by decide) (he:starEach (e::es) X.env=(false,eval e X.env)::starEach es X.env:=by rfl) (hpl:(backTo pos (starEach es X.env)).any (·.1)=false:=by rfl):WE X ρ G (.Call (.Name x pp) (e::es) [] pos) Q:=by
 obtain ⟨f,fd,F,hm,hk,hb⟩:=F.ex
 exact Ba (Rh F hr hg hm hk hb .nil ZL Kd E8 he hpl) fun σ H St=>⟨ρ,G,_,ha,St,fun vs H1 ⟨ds,G1,e1,o1,r1,q1⟩=>⟨ds,G1,Q,o1,by rw [List.append_nil];exact r1,q1,fun v H' d G' e' o' r' q'=>⟨d,G',e1.trans e',o',r',q'⟩⟩⟩
theorem Mq {Q:Dat->Gs->Prop} (h:∀p,G p=none->Q (.fn p) (put G p (.dct []))):WE X ρ G (.Dict [] [] pos) Q:=fun pins s σ H I S=>by
 refine wpAny_Dict_empty ⟨.ref s.heap.objs.size,_,I.laid (a:=s.heap.objs.size) (o:=Gv s.heap.objs.size []) (t':=s.toks) (fun _ _ q=>Heap.get?_push_of_some _ q) (Nat.le_refl _) ?_,rfl,?_⟩
 ·refine P1 ⟨beq_eq_false_iff_ne.mpr (Ne.symm (Nat.ne_of_lt (Inv.big I))),Nat.zero_le _,List.nodup_nil,_,#[],0,Heap.get?_push_size _ rfl,⟨rfl,rfl,rfl⟩,rfl,rfl⟩
 ·have hp:H s.heap.objs.size=none:=I.hok.fresh (Nat.le_refl _)
  obtain ⟨E,O⟩:=WJ (X:=X) S.own hp
  exact ⟨.fn s.heap.objs.size,_,E,O,rfl,h _ (S.own.free hp)⟩
theorem X1 (hu:X.A.units+9<cLine) (ha:PX X ρ G a (.fn p)) (hb:PX X ρ G b k) (hG:G p=some (.dct kvs)) (hk:CH 6 k=true) (hr:∃l,k=.tup l) (hl:A2 kvs k=some d) (hs:Fq b:=by intro _ _;rfl):PX X ρ G (.Subscript a b pos) d:=by
 intro pins s σ H I S
 refine Subscript_ (thn (ha pins s σ H I S) fun u s1 ⟨x,H1,I1,rx,_,_,e1,o1,r1,q1,Bp⟩=>?_)
 subst q1;subst Bp
 refine thn (hb pins s1 σ H1 I1 (S.ext e1 o1)) fun iv s2 ⟨y,H2,I2,ry,_,_,e2,o2,r2,q2,Ek⟩=>?_
 subst q2;subst Ek
 cases (show x=V.ref p from r1)
 cases rx
 obtain ⟨l,rfl⟩:=hr
 have Tj:=r2.same AJ
 have hx:∃t,y=V.ref t:=by rw [Rep]at Tj;obtain ⟨t,_,e,_⟩:=Tj;exact ⟨t,e⟩
 obtain ⟨t,rfl⟩:=hx
 cases ry
 obtain ⟨xs,h3,r3⟩:=o2 p _ hG
 obtain ⟨z1,z2,dd⟩:=Ha I2 h3 (r3.same AJ)
 obtain ⟨q,v,hq,rv,rd⟩:=(DRep.look _ r3).2 d hl
 refine tail_any (ops:=[.ref p,.ref t]) dd.typeIs PySem.F.slot_dict_getitem.lookup ?_ (hs _ _)
 exact wpAny_getItem_heap (knd:=Dq X.prog X.w) (show X.A.units+1+6<cLine by lia) (LH I2 hk Tj) dd hq ⟨v,H2,I2.tok _,rv,d,_,e1.trans e2,o2,rd,rfl,rfl⟩
theorem Fe {pos':Pos} (hu:X.A.units+9<cLine) (hv:PX X ρ G e d) (ha:PX X ρ G a (.fn p)) (hb:PX X ρ G b k) (hG:G p=some (.dct kvs)) (hk:CH 6 k=true) (hr:∃l,k=.tup l) (hz:kvs.length<sizeLine)
  (q:WSs X ρ (put G p (.dct (GO kvs k d))) rest D) (hs:swapsWith e (some (.Subscript a b pos')) pos.line X.env=pure false:=by rfl):WSs X ρ G (.Assign [.Subscript a b pos'] e pos::rest) D:=Bt fun pins s σ H I S=>by
 refine wpAny_Assign_Subscript (thn (hv pins s σ H I S) fun r s0 ⟨vv,H0,I0,t5,_,_,e0,o0,r0,q0,xH⟩=>?_) hs
 subst q0;subst xH
 refine thn (ha pins s0 σ H0 I0 (S.ext e0 o0)) fun u s1 ⟨x,H1,I1,rx,_,_,e1,o1,r1,q1,Bp⟩=>?_
 subst q1;subst Bp
 refine thn (hb pins s1 σ H1 I1 (S.ext (e0.trans e1) o1)) fun iv s2 ⟨y,H2,I2,ry,_,_,e2,o2,r2,q2,Ek⟩=>?_
 subst q2;subst Ek
 cases (show x=V.ref p from r1)
 cases rx
 obtain ⟨l,rfl⟩:=hr
 have Tj:=r2.same AJ
 have hx:∃t,y=V.ref t:=by rw [Rep]at Tj;obtain ⟨t,_,e,_⟩:=Tj;exact ⟨t,e⟩
 obtain ⟨t,rfl⟩:=hx
 cases ry
 obtain ⟨xs,h3,r3⟩:=o2 p _ hG
 obtain ⟨z1,z2,dd⟩:=Ha I2 h3 (r3.same AJ)
 have rn:=DRep.put hk r2 t5 (r0.same (e1.trans e2).hid) r3
 refine wpAny_setItem_heap (hsz:=z2) (knd:=Dq X.prog X.w) (show X.A.units+1+6<cLine by lia) (LH I2 hk Tj) dd fun h' gQ LV=>?_
 obtain ⟨E,O⟩:=XH (X:=X) o2 hG rn
 obtain ⟨o',Gu,XD,g1,g2,g3,g4,_,g5⟩:=gQ
 refine ⟨σ,_,I2.write (x:=p) (e:=p) (t':=s2.toks+Ir (.tup l)) (by rw [h3];exact True.intro) (.inl rfl) (fun b o hb z=>(LV.2 b hb).trans z) ⟨o',g1⟩ (P1 ⟨z1,?_,g5,o',Gu,XD,g1,g2,g3,g4⟩),ρ,_,(e0.trans (e1.trans e2)).trans E,S.ext ((e0.trans (e1.trans e2)).trans E) O,q⟩
 exact Nat.le_trans (Nat.le_of_eq rn.length) (Nat.le_trans (JC _ _ _) hz)
end
abbrev Sq:=Int×Int
def sq (p:Sq):Dat:=.tup [.int p.1,.int p.2]
def fl (l:List Sq):Dat:=.tup (l.map sq)
def Ap (p:Sq×Sq):Dat:=.tup [sq p.1,sq p.2]
theorem J6 (p q:Sq):eqD (sq p) (sq q)=decide (p=q):=by
 obtain ⟨a,b⟩:=p
 obtain ⟨c,d⟩:=q
 simp only [sq,eqD,eqL,Bool.and_true]
 rw [Bool.eq_iff_iff]
 simp [Prod.ext_iff]
theorem Py (l:List Sq) (p:Sq):((l.map sq).any fun e=>eqD e (sq p))=l.contains p:=by
 rw [List.any_map]
 have:(fun e=>eqD e (sq p)) ∘ sq=fun q=>q==p:=by
  funext q
  simp only [Function.comp,J6]
  rw [Bool.eq_iff_iff];simp
 rw [this]
 induction l with
 |nil=>rfl
 |cons q l ih=>
  rw [List.any_cons,List.contains_cons,ih]
  congr 1
  rw [Bool.eq_iff_iff,beq_iff_eq,beq_iff_eq]
  exact eq_comm
theorem A7 (p:Sq) (n:Nat):AG (n+1) (sq p)=true:=by
 simp only [sq,AG,List.all_cons,List.all_nil,Bool.and_true,Bool.and_eq_true]
 exact ⟨FE rfl n,FE rfl n⟩
theorem DN (l:List Sq) (n:Nat):(l.map sq).all (AG (n+1))=true:=by
 rw [List.all_eq_true]
 intro d hd
 obtain ⟨p,_,rfl⟩:=List.mem_map.mp hd
 exact A7 p n
theorem Gj {p q:Sq} (h:sq p=sq q):p=q:=by
 obtain ⟨a,b⟩:=p
 obtain ⟨c,d⟩:=q
 simp only [sq,Dat.tup.injEq,List.cons.injEq,Dat.int.injEq,and_true]at h
 rw [h.1,h.2]
theorem KG:∀{l m:List Sq},l.map sq=m.map sq->l=m
 |[],[],_=>rfl
 |[],_::_,h=>by simp at h
 |_::_,[],h=>by simp at h
 |p::l,q::m,h=>by
  simp only [List.map_cons,List.cons.injEq]at h
  rw [Gj h.1,KG h.2]
theorem QE {l m:List Sq} (h:fl l=fl m):l=m:=by
 simp only [fl,Dat.tup.injEq]at h
 exact KG h
theorem Jp {α β:Type} (f:α->β) {l:List α} {i:Int} {x:α} (h:atI l i=some x):atI (l.map f) i=some (f x):=by
 unfold atI at h ⊢
 rw [List.length_map]
 cases q:ixN l.length i with
 |none=>rw [q]at h;cases h
 |some j=>rw [q]at h;show (l.map f)[j]?=_;rw [List.getElem?_map,show l[j]?=some x from h];rfl
def CU (ns:List Int) (k:Nat):Int:=ns.getD k 0
section
variable {X:Cx}{ρ:Rho}{G:Gs}{e a b c:Expr}{es:List Expr}{d:Dat}{pos:Pos}{D:DE}{rest x y:List Stmt}{p:Bool}
theorem Rg (M:Rho->Gs->Prop) (hc:PXT X ρ G c p) (ht:p=true->WSs X ρ G x { D with nx:=M }) (hf:p=false->WSs X ρ G y { D with nx:=M }) (hr:∀ρ' G',M ρ' G'->WSs X ρ' G' rest D):WSs X ρ G (.If c x y pos::rest) D:=
 BY hc (fun h=>(ht h).mono (fun ρ' G' q=>hr ρ' G' q) (fun _ _ q=>q) (fun _ _ q=>q) fun _ _ q=>q) (fun h=>(hf h).mono (fun ρ' G' q=>hr ρ' G' q) (fun _ _ q=>q) (fun _ _ q=>q) fun _ _ q=>q)
theorem G8 {Q:Dat->Gs->Prop} (h:WE X ρ G e fun d G'=>∃q,Q d (rel G' q)):WE X ρ G e Q:=fun pins s σ H I S=>
 thn (h pins s σ H I S) fun _ _ z=>EP.mono z fun v H' ⟨d,G',e',o',r',q,hq⟩=>by
  have E:Ext H' G' H' (rel G' q):=⟨fun b u z _=>z,fun b hb=>by
   by_cases hq:b=q
   ·subst hq;rw [CF]at hb;exact absurd rfl hb
   ·rw [D6 hq]at hb;exact .inl hb⟩
  refine ⟨d,rel G' q,e'.trans E,fun b u z=>?_,r'.same E.hid,hq⟩
  by_cases hbq:b=q
  ·subst hbq;rw [CF]at z;cases z
  ·rw [D6 hbq]at z
   exact (o' b u z).ext E.hid rfl
theorem BI {ρ:Rho} {i:Nat} (h:ρ[i]?=some none):∀d ρ',CT i d ρ=some ρ'->ρ'.length=ρ.length/\∀(j:Nat) e,ρ[j]?=some (some e)->ρ'[j]?=some (some e):=by
 intro d ρ' e
 cases e
 refine ⟨List.length_set,fun j e' h'=>?_⟩
 by_cases z:i=j
 ·subst z;rw [h]at h';cases h'
 ·rw [List.getElem?_set_ne z];exact h'
theorem WX {ρ:Rho} {i j:Nat} (h:ρ[i]?=some none) (h':ρ[j]?=some none):∀d ρ',Fd i j d ρ=some ρ'->ρ'.length=ρ.length/\∀(k:Nat) e,ρ[k]?=some (some e)->ρ'[k]?=some (some e):=by
 intro d ρ' e
 cases d<;>simp only [Fd,reduceCtorEq]at e
 rename_i l
 match l,e with
 |[a,b],e=>
  simp only [Option.some.injEq]at e
  subst e
  refine ⟨by rw [List.length_set,List.length_set],fun k e' hk=>?_⟩
  by_cases z:j=k
  ·subst z;rw [h']at hk;cases hk
  ·rw [List.getElem?_set_ne z]
   by_cases z2:i=k
   ·subst z2;rw [h]at hk;cases hk
   ·rw [List.getElem?_set_ne z2];exact hk
 |[],e=>simp at e
 |[_],e=>simp at e
 |_::_::_::_,e=>simp at e
end
section
variable {X:Cx}{ρ:Rho}{G:Gs}{e a b c:Expr}{es:List Expr}{d d' d1 d2 d3 k:Dat}{ds l m:List Dat}{pos:Pos}{i j z:Int}{p:Addr}{kvs:List (Dat×Dat)}{D:DE}{rest body:List Stmt}
theorem Pe {f:Str} {id:String} {r:List V->Hp->VK->Prop} {pp:Pos} (hc:C2 X (.builtin id) r) (hg:Gl X f) (hm:X.mg f=none) (hv:bootBuiltins f=some (.builtin id)) (ha:PX X ρ G a d1) (hb:PX X ρ G b d2)
  (hr:∀(H:Hp) (x y:V) (Q:VK),GOk X.K H G->Rep X.K (hid H G) d1 x->Rep X.K (hid H G) d2 y->(∀v H',Po X H G (fun d' G'=>d'=d/\G'=G) v H'->Q v H')->r [x,y] H Q)
  (hn:f≠"__name__":=by decide) (E8:(f==("__debug__":Str))=false:=by decide) (he:starEach [a,b] X.env=(false,eval a X.env)::starEach [b] X.env:=by rfl) (he2:starEach [b] X.env=(false,eval b X.env)::starEach [] X.env:=by rfl)
  (hpl:(backTo pos (starEach [b] X.env)).any (·.1)=false:=by rfl):PX X ρ G (.Call (.Name f pp) [a,b] [] pos) d:=
 Ba (HL hc hg hm hv (B3 Ak (B3 Ak D3 he2) he) hn E8 he hpl) fun σ H S=>⟨ρ,G,_,ha,S,fun x H1 ⟨_,_,e1,o1,r1,q1,Bp⟩=>by
  subst q1;subst Bp
  refine ⟨ρ,_,_,hb,S.ext e1 o1,fun y H2 ⟨_,_,e2,o2,r2,q2,Ek⟩=>?_⟩
  subst q2;subst Ek
  exact hr H2 x y _ o2 (r1.same e2.hid) r2 fun v H' z=>Po.trans (e1.trans e2) z⟩
theorem Yl {pp:Pos} (hc:X.calm=true) (hm:X.mg "max"=none) (ha:PX X ρ G a (.int i)) (hb:PX X ρ G b (.int j)) (hg:Gl X "max":=by rfl) (he:starEach [a,b] X.env=(false,eval a X.env)::starEach [b] X.env:=by rfl) (he2:starEach [b] X.env=(false,eval b X.env)::starEach [] X.env:=by rfl)
  (hpl:(backTo pos (starEach [b] X.env)).any (·.1)=false:=by rfl):PX X ρ G (.Call (.Name "max" pp) [a,b] [] pos) (.int (max i j)):=
 Pe (UO hc) hg hm (by decide +kernel) ha hb (fun H x y Q o rx ry k=>by
  rw [Rep]at rx ry
  subst rx;subst ry
  refine ⟨i,j,rfl,k _ _ (BL o ?_)⟩
  rw [Rep]
  congr 1
  split<;>lia) (he:=he) (he2:=he2) (hpl:=hpl)
theorem Xp {pp:Pos} (hc:X.calm=true) (hm:X.mg "min"=none) (ha:PX X ρ G a (.int i)) (hb:PX X ρ G b (.int j)) (hg:Gl X "min":=by rfl) (he:starEach [a,b] X.env=(false,eval a X.env)::starEach [b] X.env:=by rfl) (he2:starEach [b] X.env=(false,eval b X.env)::starEach [] X.env:=by rfl)
  (hpl:(backTo pos (starEach [b] X.env)).any (·.1)=false:=by rfl):PX X ρ G (.Call (.Name "min" pp) [a,b] [] pos) (.int (min i j)):=
 Pe (TB hc) hg hm (by decide +kernel) ha hb (fun H x y Q o rx ry k=>by
  rw [Rep]at rx ry
  subst rx;subst ry
  refine ⟨i,j,rfl,k _ _ (BL o ?_)⟩
  rw [Rep]
  congr 1
  split<;>lia) (he:=he) (he2:=he2) (hpl:=hpl)
theorem Sn (hc:X.calm=true):C2 X (.builtin "max") (fun xs H Q=>∃(p:Addr) (ns:List Int),xs=[.ref p]/\SqL X.K H p (ns.map V.int)/\ns≠[]/\∀M,M∈ns->(∀a∈ns,a≤M)->Q (.int M) H):=by
 intro pins s σ H xs us Q I r h
 obtain ⟨p,ns,rfl,hq,Co,q⟩:=h
 obtain ⟨u,rfl,rx⟩:=HU r
 cases rx
 obtain ⟨its,r',pl,hz⟩:=I.list hq
 have hi:IntsAre its ns:=K1 r'
 obtain ⟨xs,hx⟩:=hi.allInts.items
 have Nv:ns=xs.toList.map (·.1):=by rw [<-hi.numsOf,<-nums_intItems,<-hx]
 have hsz:0<xs.size:=by
  have h3:0<ns.length:=List.length_pos_iff.mpr Co
  rw [Nv,List.length_map,Array.length_toList]at h3;exact h3
 have hl:=pl.isList
 rw [hx]at hl
 refine max_intList (I.ok.hd hc) hl hsz fun v h' tk hv hk=>?_
 obtain ⟨t,rfl⟩:=intItems_at hv
 obtain ⟨h1,h2⟩:=argBest_gt (numAt xs) (xs.size-1)
 refine ⟨.int _,H,I.kept hk,⟨t,rfl⟩,q _ ?_ fun a ha=>?_⟩
 ·rw [Nv,numAt_eq];exact getD_mem (by rw [List.length_map,Array.length_toList];lia)
 ·rw [Nv]at ha
  obtain ⟨j,hj,rfl⟩:=mem_getD ha
  rw [List.length_map,Array.length_toList]at hj
  rw [<-numAt_eq];exact h2 j (by lia)
theorem Rw {ns:List Int} {M:Int} {pp:Pos} (hc:X.calm=true) (hm:X.mg "max"=none) (ha:PX X ρ G a (.lst (ns.map .int))) (h1:M∈ns) (h2:∀a∈ns,a≤M) (hg:Gl X "max":=by rfl) (he:starEach [a] X.env=(false,eval a X.env)::starEach [] X.env:=by rfl):PX X ρ G (.Call (.Name "max" pp) [a] [] pos) (.int M):=
 Em (Sn hc) hg hm (by decide +kernel) ha (fun H x Q o r k=>by
  rw [Rep]at r
  obtain ⟨q,vs,e,g1,r1⟩:=r
  refine ⟨q,ns,by rw [e],by rw [<-r1.ints];exact SqL.of (AJ _ _ g1),List.ne_nil_of_mem h1,fun M' g2 g3=>?_⟩
  obtain rfl:M'=M:=Int.le_antisymm (h2 _ g2) (g3 _ h1)
  exact k _ _ (BL o rfl)) (he:=he)
def SeqOf (G:Gs) (d:Dat) (l:List Dat):Prop:=d=.tup l\/d=.lst l\/∃p,d=.fn p/\G p=some (.lst l)
theorem VQ {H:Hp} {K:PySem.W.Frag} {y:V} (h:SeqOf G d l) (o:GOk K H G) (r:Rep K (hid H G) d y):∃p vs,y=.ref p/\(H p=some (.lst vs)\/SqT K H p vs)/\RepL K H l vs:=by
 rcases h with rfl|rfl|⟨p,rfl,hG⟩
 ·exact in_of (.inl r)
 ·exact in_of (.inr r)
 ·obtain ⟨vs,h3,r3⟩:=o p _ hG
  exact ⟨p,vs,r,.inl h3,r3.same AJ⟩
theorem Yi (hu:X.A.units+9<cLine) (ha:PX X ρ G a d1) (hb:PX X ρ G b d2) (hl:SeqOf G d2 l) (p1:AG 8 d1=true) (p2:l.all (AG 8)=true):PXC X ρ G .In a b (.bl (l.any fun e=>eqD e d1)):=
 DB (aC hu) ha hb fun H x y Q o hx hy k=>by
  obtain ⟨p,vs,h1,h2,h3⟩:=VQ hl o hy
  exact ⟨p,vs,d1,l,h1,h2,h3,hx.same AJ,p1,p2,k _ _ (BL o rfl)⟩
theorem Km (hu:X.A.units+9<cLine) (ha:PX X ρ G a d1) (hb:PX X ρ G b d2) (hl:SeqOf G d2 l) (p1:AG 8 d1=true) (p2:l.all (AG 8)=true):PXC X ρ G .NotIn a b (.bl (!(l.any fun e=>eqD e d1))):=
 DB (UM hu) ha hb fun H x y Q o hx hy k=>by
  obtain ⟨p,vs,h1,h2,h3⟩:=VQ hl o hy
  exact ⟨p,vs,d1,l,h1,h2,h3,hx.same AJ,p1,p2,k _ _ (BL o rfl)⟩
theorem EC {lo hi:Option Expr} {p2:Pos} {ol oh:Option Int} (ha:PX X ρ G a (.lst l)) (hl:PXo X ρ G lo ol) (hh:PXo X ρ G hi oh):PX X ρ G (.Subscript a (.Slice lo hi none p2) pos) (.lst (LN l ol oh)):=
 Ba (LU W5 Ak Lv Lv) fun σ H S=>⟨ρ,G,_,ha,S,fun x H1 ⟨_,_,e1,o1,r1,q1,Bp⟩=>by
  subst q1;subst Bp
  refine ⟨ρ,_,ol,hl,S.ext e1 o1,fun H2 e2 o2=>⟨ρ,_,oh,hh,S.ext (e1.trans e2) o2,fun H3 e3 o3=>?_⟩⟩
  have r3:=r1.same (e2.trans e3).hid
  rw [Rep]at r3
  obtain ⟨q,vs,rfl,h1,h2⟩:=r3
  exact ⟨q,vs,rfl,SqL.of (AJ _ _ h1),fun t ht=>Po.trans ((e1.trans e2).trans e3) (Dy o3 ht (Ms h2))⟩⟩
theorem Rx (ha:PX X ρ G a (.int i)) (hb:PX X ρ G b (.int j)) (hc:PX X ρ G c (.int z)) (hm:lastMarks [.LtE,.LtE] [b,c]=false:=by with_unfolding_all rfl):PX X ρ G (.Compare a [.LtE,.LtE] [b,c] pos) (.bl (decide (i≤j)&&decide (j≤z))):=
 Ba (WH R6 R6 Ak Ak Ak hm) fun σ H S=>⟨ρ,G,_,ha,S,fun x H1 ⟨_,_,e1,o1,r1,q1,Bp⟩=>by
  subst q1;subst Bp
  refine ⟨ρ,_,_,hb,S.ext e1 o1,fun y H2 ⟨_,_,e2,o2,r2,q2,Ek⟩=>?_⟩
  subst q2;subst Ek
  refine ⟨i,j,r1,r2,decide (i≤j),rfl,?_⟩
  by_cases h:i≤j
  ·rw [decide_eq_true h,if_pos rfl]
   refine ⟨ρ,_,_,hc,S.ext (e1.trans e2) o2,fun w' H3 ⟨_,_,e3,o3,r3,q3,oK⟩=>?_⟩
   subst q3;subst oK
   exact ⟨j,z,r2,r3,Po.trans ((e1.trans e2).trans e3) (BL o3 rfl)⟩
  ·rw [decide_eq_false h,if_neg (by decide)]
   exact Po.trans (e1.trans e2) (BL o2 rfl)⟩
theorem HG (ha:PX X ρ G a (.int i)) (hb:PX X ρ G b (.int j)) (hc:PX X ρ G c (.int z)) (hm:lastMarks [.LtE,.LtE] [b,c]=false:=by with_unfolding_all rfl):PXT X ρ G (.Compare a [.LtE,.LtE] [b,c] pos) (decide (i≤j)&&decide (j≤z)):=
 Yp (Vz R6 R6 Ak Ak Ak hm) fun σ H S=>⟨ρ,G,_,ha,S,fun x H1 ⟨_,_,e1,o1,r1,q1,Bp⟩=>by
  subst q1;subst Bp
  refine ⟨ρ,_,_,hb,S.ext e1 o1,fun y H2 ⟨_,_,e2,o2,r2,q2,Ek⟩=>?_⟩
  subst q2;subst Ek
  refine ⟨i,j,r1,r2,decide (i≤j),rfl,?_⟩
  by_cases h:i≤j
  ·rw [decide_eq_true h,if_pos rfl]
   refine ⟨ρ,_,_,hc,S.ext (e1.trans e2) o2,fun w' H3 ⟨_,_,e3,o3,r3,q3,oK⟩=>?_⟩
   subst q3;subst oK
   exact ⟨j,z,r2,r3,decide (j≤z),rfl,_,(e1.trans e2).trans e3,o3,rfl,rfl⟩
  ·rw [decide_eq_false h,if_neg (by decide)]
   exact ⟨false,rfl,_,e1.trans e2,o2,rfl,rfl⟩⟩
end
section
variable {X:Cx}{ρ:Rho}{G:Gs}{e a b c:Expr}{es:List Expr}{d d' d1 d2 d3 k:Dat}{ds l m:List Dat}{pos:Pos}{i j z:Int}{p:Addr}{kvs:List (Dat×Dat)}{D:DE}{rest body:List Stmt}
structure DfA (P:Program) (w:World) (K:PySem.W.Frag) (mg:Str->Option Value) (base:Heap) (f:Addr) (ps:List Str) (k:Nat) (S:SpD):Prop where
 ex:∃fd,FnOk P w K mg base CX0 k f fd ps (BD K S)/\PySem.W.keepIn K (.ref f)=true/\Binds K fd ps []
theorem GJ {x:Str} {t:Tok} (hm:X.mg x=some (.int i t)) (hg:Gl X x:=by rfl) (hd:(x==("__debug__":Str))=false:=by decide):PX X ρ G (.Name x pos) (.int i):=
 Ba (YF (v:=.int i) hg hm ⟨t,rfl⟩ hd) fun σ H S=>BL S.own rfl
end
def tyS:Dat->Option String
 |.non=>some "NoneType"
 |.bl _=>some "bool"
 |.int _=>some "int"
 |.str _=>some "str"
 |.fn _=>none
 |.scr _=>some "list"
 |.tup _=>some "tuple"
 |.lst _=>some "list"
def isS (t c:String):Bool:=t==c||(t=="bool"&&c=="int")
theorem aE {K:PySem.W.Frag} (t c:String) (ht:t∈["NoneType","bool","int","str","tuple","list"]) (hc:c∈["bool","int","str","tuple","list"]):PySem.W.kitOne K (.type t) (.type c)=some (isS t c):=by
 simp only [List.mem_cons,List.not_mem_nil,or_false]at ht hc
 rcases ht with rfl|rfl|rfl|rfl|rfl|rfl<;>rcases hc with rfl|rfl|rfl|rfl|rfl<;>rfl
section
variable {X:Cx}{ρ:Rho}{G:Gs}{e a b c:Expr}{d:Dat}{pos:Pos}
theorem av {pins:List (Addr×Obj)} {σ:St} {H:Hp} {s:Shared} {A:Around} {E:Value->Shared->Prop} {Q:Value->Shared->Prop} {cl:Value} {q:Bool} {v:V} {u:Value} {t:String} (I:Inv X pins σ H s) (ru:RelV v u) (r:Rep X.K H d v) (ht:tyS d=some t)
  (ek:PySem.W.kitOne X.K (.type t) cl=some q) (h:∀tk,Q (.bool q) { s with toks:=tk }):wpAny (model X.prog X.w) A (call (.builtin "isinstance") [u,cl]) Q E s:=by
 cases d with
 |fn a=>cases ht
 |non=>cases ht;rw [Rep]at r;subst r;exact GH I ru (.non) ek h
 |bl b=>cases ht;rw [Rep]at r;subst r;exact GH I ru (.bl b) ek h
 |int b=>cases ht;rw [Rep]at r;subst r;exact GH I ru (.int b) ek h
 |str b=>cases ht;rw [Rep]at r;subst r;exact GH I ru (.str b) ek h
 |scr ns=>
  cases ht
  rw [Rep]at r
  obtain ⟨a,rfl,hq⟩:=r
  cases ru
  obtain ⟨its,r',pl,hz⟩:=I.list hq
  obtain ⟨o,h1,h2,_⟩:=pl.isList
  exact PySem.W.kia_one PySem.W.kitx_list I.kIn ⟨_,h1,h2⟩ ek (fun z=>nomatch z) h
 |tup l=>
  cases ht
  rw [Rep]at r
  obtain ⟨a,vs,rfl,hq,_⟩:=r
  cases ru
  obtain ⟨its,r',pl,hz⟩:=I.tuple hq
  obtain ⟨o,h1,h2,_⟩:=pl
  exact PySem.W.kia_one PySem.W.kitx_tuple I.kIn ⟨_,h1,h2⟩ ek (fun z=>nomatch z) h
 |lst l=>
  cases ht
  rw [Rep]at r
  obtain ⟨a,vs,rfl,hq,_⟩:=r
  cases ru
  obtain ⟨its,r',pl,hz⟩:=I.list (SqL.of hq)
  obtain ⟨o,h1,h2,_⟩:=pl.isList
  exact PySem.W.kia_one PySem.W.kitx_list I.kIn ⟨_,h1,h2⟩ ek (fun z=>nomatch z) h
theorem Uu {d:Dat} {t:String} {T:String} (ht:tyS d=some t) (hT:T∈["bool","int","str","tuple","list"]):C2 X (.builtin "isinstance") (fun xs H Q=>∃v,xs=[v,.ty T]/\Rep X.K H d v/\Q (.bl (isS t T)) H):=by
 intro pins s σ H xs us Q I r h
 obtain ⟨v,rfl,rd,q⟩:=h
 obtain ⟨u,w',rfl,ru,cA⟩:=Mh r
 cases (show w'=Value.type T from cA)
 refine av I ru rd ht (aE t T ?_ hT) fun tk=>⟨.bl _,H,I.tok _,rfl,q⟩
 cases d<;>simp only [tyS,Option.some.injEq,reduceCtorEq]at ht<;>subst ht<;>decide
theorem D7 {t:String} {T:Str} {T':String} {pp p2:Pos} (hm:X.mg "isinstance"=none) (hT:X.mg T=none) (ha:PX X ρ G a d) (ht:tyS d=some t:=by rfl) (hb:bootBuiltins T=some (.type T'):=by decide +kernel) (yT:T'∈["bool","int","str","tuple","list"]:=by decide) (hg:Gl X "isinstance":=by rfl) (oB:Gl X T:=by rfl)
  (hn:T≠"__name__":=by decide) (E8:(T==("__debug__":Str))=false:=by decide) (he:starEach [a,.Name T p2] X.env=(false,eval a X.env)::starEach [.Name T p2] X.env:=by rfl):PX X ρ G (.Call (.Name "isinstance" pp) [a,.Name T p2] [] pos) (.bl (isS t T')):=
 Ba (HL (Uu ht yT) hg hm (by decide +kernel) (B3 Ak (B3 (SE (v:=.ty T') oB hT hb rfl hn E8) D3) he) (by decide) (by decide) he rfl) fun σ H S=>⟨ρ,G,_,ha,S,fun x H1 ⟨_,_,e1,o1,r1,q1,Bp⟩=>by
  subst q1;subst Bp
  exact ⟨x,rfl,r1.same AJ,Po.trans e1 (BL o1 rfl)⟩⟩
end
def Kn (G G':Gs):Prop:=∀q o,G q=some o->G' q=some o
theorem Kn.refl (G:Gs):Kn G G:=fun _ _ h=>h
theorem Wb {G:Gs} {p:Addr} {o:OD} (h:G p=none):Kn G (put G p o):=fun q u e=>by
 by_cases hq:q=p
 ·subst hq;rw [h]at e;cases e
 ·rw [Cj hq];exact e
theorem SeqOf.kn {G G':Gs} {d:Dat} {l:List Dat} (h:SeqOf G d l) (k:Kn G G'):SeqOf G' d l:=by
 rcases h with h|h|⟨p,h1,h2⟩
 ·exact .inl h
 ·exact .inr (.inl h)
 ·exact .inr (.inr ⟨p,h1,k _ _ h2⟩)
section
variable {X:Cx}{ρ:Rho}{G:Gs}{elt target iter c:Expr}{ifs:List Expr}{scope:Scope}{Ae pos pos':Pos}{Nc:List Str}{caps:List (Option Nat)}{l:List Dat}{f:Dat->Rho->Option Rho}{D:DE}{rest:List Stmt}
theorem ZP {tg it:Expr} {Pv:Nat->List Dat->Gs->Prop} (hi:WI X ρ G tg it fun l' G'=>l'=l/\G'=G) (h0:Pv 0 [] G):WI X ρ G tg it fun l' G'=>l'=l/\Pv 0 [] G':=fun pins s σ H I S=>
 thn (hi pins s σ H I S) fun v s1 h1=>thn h1 fun gC s2 hh=>by
  obtain ⟨it,fp,tn,J,H',e,I',T,st,fk,l',G',e',o',wk,q1,q2⟩:=hh
  exact ⟨it,fp,tn,J,H',e,I',T,st,fk,l',G',e',o',wk,q1,by rw [q2];exact h0⟩
theorem WU (g:Dat->Dat) (hz:l.length≤5000)
  (DW:∀C s' H' fp G' d,d∈l->Kn G G'->∃ρ',f d (Bb caps ρ)=some ρ'/\PX (Aa X Nc scope C s' H' fp) ρ' G' elt (g d)) :
  ∀C s' H' fp Dd i d acc G',l[i]?=some d->(G'=G/\acc=(l.take i).map g)->G' Dd=none->∃ρ',f d (Bb caps ρ)=some ρ' ∧
   Jz (Aa X Nc scope C s' H' fp) ρ' (put G' Dd (.lst acc)) (KU elt (Aa X Nc scope C s' H' fp).env (.ref Dd)) fun VA=>∃Cc G4,Cc.length≤acc.length+1/\G4 Dd=none/\VA=put G4 Dd (.lst Cc)/\(G4=G/\Cc=(l.take (i+1)).map g):=by
 rintro C s' H' fp Dd i d acc G' hd ⟨rfl,rfl⟩ hD
 obtain ⟨ρ',h1,h2⟩:=DW C s' H' fp (put G' Dd (.lst ((l.take i).map g))) d (List.mem_of_getElem? hd) (Wb hD)
 refine ⟨ρ',h1,Ea rfl AL ?_ (PX.we h2 ⟨AL,_,G',?_,hD,BQ,rfl,?_⟩)⟩
 ·have:((l.take i).map g).length≤l.length:=by rw [List.length_map,List.length_take];lia
  exact Nat.lt_of_le_of_lt (Nat.le_trans this hz) (by decide)
 ·simp
 ·rw [List.take_add_one,hd]
  simp
theorem V8 (p:Dat->Bool) (g:Dat->Dat) (hz:l.length≤5000)
  (DW:∀C s' H' fp G' d,d∈l->Kn G G'->∃ρ',f d (Bb caps ρ)=some ρ'/\PXT (Aa X Nc scope C s' H' fp) ρ' G' c (p d)/\(p d=true->PX (Aa X Nc scope C s' H' fp) ρ' G' elt (g d))) :
  ∀C s' H' fp Dd i d acc G',l[i]?=some d->(G'=G/\acc=((l.take i).filter p).map g)->G' Dd=none->∃ρ',f d (Bb caps ρ)=some ρ' ∧
   Jz (Aa X Nc scope C s' H' fp) ρ' (put G' Dd (.lst acc)) (Oe c elt (Aa X Nc scope C s' H' fp).env (.ref Dd)) fun VA=>∃Cc G4,Cc.length≤acc.length+1/\G4 Dd=none/\VA=put G4 Dd (.lst Cc)/\(G4=G/\Cc=((l.take (i+1)).filter p).map g):=by
 rintro C s' H' fp Dd i d acc G' hd ⟨rfl,rfl⟩ hD
 obtain ⟨ρ',h1,h2,h3⟩:=DW C s' H' fp (put G' Dd (.lst (((l.take i).filter p).map g))) d (List.mem_of_getElem? hd) (Wb hD)
 have et:(l.take (i+1)).filter p=(l.take i).filter p++(if p d=true then [d]else []):=by
  rw [List.take_add_one,hd,List.filter_append]
  simp only [Option.toList_some,List.filter_cons,List.filter_nil]
 refine ⟨ρ',h1,QQ rfl (K7 h2 ⟨fun hp=>?_,fun hp=>?_⟩)⟩
 ·refine Ea rfl AL ?_ (PX.we (h3 hp) ⟨AL,_,G',?_,hD,BQ,rfl,?_⟩)
  ·have:(((l.take i).filter p).map g).length≤l.length:=by
    rw [List.length_map]
    exact Nat.le_trans (List.length_filter_le _ _) (by rw [List.length_take];lia)
   exact Nat.lt_of_le_of_lt (Nat.le_trans this hz) (by decide)
  ·simp
  ·rw [et,if_pos hp];simp
 ·refine ⟨_,G',?_,hD,rfl,rfl,?_⟩
  ·simp
  ·rw [et,if_neg (by rw [hp];decide)];simp
theorem FQ (g:Dat->Dat) (Sc:CompSc X scope Nc caps) (B9:X.calm=true) (hi:WI X ρ G target iter fun l' G'=>l'=l/\G'=G)
  (hg:∀C s' H' fp,PGD (Aa X Nc scope C s' H' fp) target f) (hle:∀d ρ',f d (Bb caps ρ)=some ρ'->ρ'.length=(Bb caps ρ).length/\∀(j:Nat) e,(Bb caps ρ)[j]?=some (some e)->ρ'[j]?=some (some e)) (hz:l.length≤5000)
  (DW:∀C s' H' fp G' d,d∈l->Kn G G'->∃ρ',f d (Bb caps ρ)=some ρ'/\PX (Aa X Nc scope C s' H' fp) ρ' G' elt (g d)) (WW:∀x,foldedSetIterable iter X.env x=pure x:=by intro _;rfl) :
  PX X ρ G (.ListComp elt [⟨target,iter,[],0⟩] scope Ae) (.lst (l.map g)):=
 NZ (Pv:=fun i acc G'=>G'=G/\acc=(l.take i).map g) (LM elt target iter scope Ae) Sc B9 (ZP (Pv:=fun i acc G'=>G'=G/\acc=(l.take i).map g) hi ⟨rfl,by simp⟩) hg hle (Nat.le_trans hz (by decide)) (WU g hz DW) (by
  rintro acc G' ⟨rfl,rfl⟩
  rw [List.take_length]
  exact ⟨rfl,rfl⟩) WW
theorem HJ (p:Dat->Bool) (g:Dat->Dat) (Sc:CompSc X scope Nc caps) (B9:X.calm=true) (hi:WI X ρ G target iter fun l' G'=>l'=l/\G'=G)
  (hg:∀C s' H' fp,PGD (Aa X Nc scope C s' H' fp) target f) (hle:∀d ρ',f d (Bb caps ρ)=some ρ'->ρ'.length=(Bb caps ρ).length/\∀(j:Nat) e,(Bb caps ρ)[j]?=some (some e)->ρ'[j]?=some (some e)) (hz:l.length≤5000)
  (DW:∀C s' H' fp G' d,d∈l->Kn G G'->∃ρ',f d (Bb caps ρ)=some ρ'/\PXT (Aa X Nc scope C s' H' fp) ρ' G' c (p d)/\(p d=true->PX (Aa X Nc scope C s' H' fp) ρ' G' elt (g d))) (WW:∀x,foldedSetIterable iter X.env x=pure x:=by intro _;rfl) :
  PX X ρ G (.ListComp elt [⟨target,iter,[c],0⟩] scope Ae) (.lst ((l.filter p).map g)):=
 NZ (Pv:=fun i acc G'=>G'=G/\acc=((l.take i).filter p).map g) (Ua elt target iter c scope Ae) Sc B9 (ZP (Pv:=fun i acc G'=>G'=G/\acc=((l.take i).filter p).map g) hi ⟨rfl,by simp⟩) hg hle (Nat.le_trans hz (by decide)) (V8 p g hz DW) (by
  rintro acc G' ⟨rfl,rfl⟩
  rw [List.take_length]
  exact ⟨rfl,rfl⟩) WW
end
def A1 (p q:Sq):Prop:=p.1<q.1\/(p.1=q.1/\p.2<q.2)
instance (p q:Sq):Decidable (A1 p q):=by unfold A1;infer_instance
theorem Ax (p:Sq):¬A1 p p:=by unfold A1;lia
theorem Dh {p q r:Sq} (h:A1 p q) (h':A1 q r):A1 p r:=by unfold A1 at *;lia
theorem WZ (p q:Sq):A1 p q\/p=q\/A1 q p:=by
 obtain ⟨a,b⟩:=p
 obtain ⟨c,d⟩:=q
 unfold A1
 simp only [Prod.mk.injEq]
 lia
structure Good (F:List Sq):Prop where
 ne:F≠[]
 up:F.Pairwise A1
 inn:∀p∈F,0≤p.1/\p.1≤7/\0≤p.2/\p.2≤7
 len:F.length≤24
theorem Good.nodup {F:List Sq} (h:Good F):F.Nodup:=h.up.imp fun {a b} M8 e=>by subst e;exact Ax _ M8
def Kt (r w d e:Nat):List Sq:=(List.range r).flatMap fun i=>(List.range w).map fun j=>(((d+i:Nat):Int),((e+j:Nat):Int))
theorem Jv (r w d e:Nat):(Kt r w d e).length=r*w:=by
 unfold Kt
 induction r with
 |zero=>simp
 |succ r ih=>rw [List.range_succ,List.flatMap_append,List.length_append,ih];simp [Nat.succ_mul]
theorem N2 {r w d e:Nat} {p:Sq}:p∈Kt r w d e↔∃i j:Nat,i<r/\j<w/\p=(((d+i:Nat):Int),((e+j:Nat):Int)):=by
 unfold Kt
 simp only [List.mem_flatMap,List.mem_map,List.mem_range]
 constructor
 ·rintro ⟨i,hi,j,hj,rfl⟩;exact ⟨i,j,hi,hj,rfl⟩
 ·rintro ⟨i,j,hi,hj,rfl⟩;exact ⟨i,hi,j,hj,rfl⟩
theorem L7 (i w d e:Nat):Kt (i+1) w d e=Kt i w d e++(List.range w).map fun j=>(((d+i:Nat):Int),((e+j:Nat):Int)):=by
 unfold Kt
 rw [List.range_succ,List.flatMap_append]
 simp
theorem XZ (r w d e:Nat):(Kt r w d e).Pairwise A1:=by
 induction r with
 |zero=>exact List.Pairwise.nil
 |succ r ih=>
  rw [L7,List.pairwise_append]
  refine ⟨ih,?_,fun p hp q hq=>?_⟩
  ·rw [List.pairwise_map]
   refine List.Pairwise.imp (fun {a b} h=>?_) List.pairwise_lt_range
   exact .inr ⟨rfl,by show ((e+a:Nat):Int)<((e+b:Nat):Int);lia⟩
  ·obtain ⟨i,j,hi,hj,rfl⟩:=N2.mp hp
   obtain ⟨j',_,rfl⟩:=List.mem_map.mp hq
   exact .inl (by show ((d+i:Nat):Int)<((d+r:Nat):Int);lia)
theorem WG {r w d e:Nat} (h1:r*w≤24) (h2:d+r≤8) (h3:e+w≤8) {F:List Sq} (hs:F.Sublist (Kt r w d e)) (Co:F≠[]):Good F:=by
 refine ⟨Co,(XZ r w d e).sublist hs,fun p hp=>?_,?_⟩
 ·obtain ⟨i,j,hi,hj,rfl⟩:=N2.mp (hs.subset hp)
  show 0≤((d+i:Nat):Int)/\((d+i:Nat):Int)≤7/\0≤((e+j:Nat):Int)/\((e+j:Nat):Int)≤7
  lia
 ·exact Nat.le_trans hs.length_le (by rw [Jv];exact h1)
def M6 (r w:Nat):Prop:=(1≤r/\r≤4/\1≤w/\w≤5)\/(r=2/\w=12)\/(r=3/\w=8)\/(r=8/\w=3)\/(r=6/\w=4)
theorem UH {r w:Nat} (h:M6 r w):r*min w 8≤24/\0<r*min w 8:=by
 rcases h with ⟨h1,h2,h3,h4⟩|⟨rfl,rfl⟩|⟨rfl,rfl⟩|⟨rfl,rfl⟩|⟨rfl,rfl⟩
 ·have:min w 8=w:=by lia
  rw [this]
  exact ⟨Nat.le_trans (Nat.mul_le_mul h2 h4) (by decide),Nat.mul_pos h1 h3⟩
 all_goals decide
def UC (c p m:Int):Int:=c*48271%p%m
theorem DH (c p:Int) (m:Nat) (hm:0<m):∃r:Nat,r<m/\UC c p (m:Int)=(r:Int):=by
 refine ⟨(UC c p m).toNat,?_,?_⟩
 ·have:=Int.emod_lt_of_pos (c*48271%p) (show (0:Int)<m by lia)
  have:=Int.emod_nonneg (c*48271%p) (show (m:Int)≠0 by lia)
  unfold UC;lia
 ·have:=Int.emod_nonneg (c*48271%p) (show (m:Int)≠0 by lia)
  unfold UC;lia
theorem Qv (L:List Sq) (p:Dat->Bool):((L.map sq).filter p).map id=(L.filter fun q=>p (sq q)).map sq:=by
 rw [List.map_id,List.filter_map]
 rfl
theorem sz {n:Nat} (h:n≤5000):n≤sizeLine:=Nat.le_trans h (by decide)
theorem sz1 {n:Nat} (h:n≤5000):n<sizeLine:=Nat.lt_of_le_of_lt h (by decide)
theorem Bu (i:Int) (n:Nat):(A8 i n).length=n:=by simp [A8]
theorem De {lo:Int} {n i:Nat} {d:Dat} (h:(A8 lo n)[i]?=some d):i<n/\d=.int (lo+(i:Nat)):=by
 have A4:i<n:=by
  have:=(List.getElem?_eq_some_iff.mp h).1
  simpa [A8]using this
 have:(A8 lo n)[i]?=some (.int (lo+i)):=by simp [A8,A4]
 rw [this]at h;cases h;exact ⟨A4,rfl⟩
theorem Gq {lo:Int} {n:Nat} {d:Dat} (h:d∈A8 lo n):∃i:Nat,i<n/\d=.int (lo+(i:Nat)):=by
 obtain ⟨i,hi⟩:=List.mem_iff_getElem?.mp h
 exact ⟨i,De hi⟩
def Ij:SpD:=fun ds G R=>∃(ns:List Int) (k:Nat),ds=[.scr ns,.int k]/\R (.int (CU ns k)) G
def N8:SpD:=fun ds G R=>∃(c p m:Int),ds=[.int c,.int p,.int m]/\0<p/\0<m/\R (.int (UC c p m)) G
def Js:SpD:=fun ds G R=>∃(ns:List Int) (k:Nat),ds=[.scr ns,.int k]/\∀F,Good F->R (fl F) G
end TF
namespace TF
theorem Og {α:Type} [DecidableEq α]:∀{l m:List α},l.Nodup->(∀x∈l,x∈m)->l.length≤m.length
 |[],_,_,_=>Nat.zero_le _
 |a::r,m,hn,hs=>by
  obtain ⟨h1,h2⟩:=List.nodup_cons.mp hn
  have ha:=hs a (List.mem_cons_self ..)
  have:r.length≤(m.erase a).length:=Og h2 fun x hx=>by
   have Co:x≠a:=by rintro rfl;exact h1 hx
   exact (List.mem_erase_of_ne Co).mpr (hs x (List.mem_cons_of_mem _ hx))
  rw [List.length_erase_of_mem ha]at this
  have hp:0<m.length:=List.length_pos_of_mem ha
  rw [List.length_cons];lia
def nbM (q:Sq):List Sq:=[(q.1-1,q.2),(q.1,q.2-1),(q.1,q.2+1),(q.1+1,q.2)]
end TF
namespace TF
open PySem PySem.Spec L2
open PyProof.Rows hiding St RelV
theorem Rm (G:Gs) (q:List Sq):Qp G (fl q)=some q.length:=by simp [Qp,fl]
theorem E1 (q:Sq):CH 6 (sq q)=true:=rfl
theorem Nz (L:List Sq) (v:Sq->Dat) (y:Sq):A2 (L.map fun q=>(sq q,v q)) (sq y)=if y∈L then some (v y)else none:=by
 induction L with
 |nil=>rfl
 |cons a r ih=>
  unfold A2 at ih ⊢
  rw [List.map_cons,List.find?_cons]
  by_cases h:a=y
  ·subst h
   simp
  ·have Co:sq a≠sq y:=fun e=>h (Gj e)
   rw [decide_eq_false Co]
   simp only
   rw [ih]
   have:(y∈a::r)↔y∈r:=by simp [Ne.symm h]
   simp only [this]
theorem Lw (q:Sq):AG 8 (sq q)=true:=A7 q 7
theorem Ed (l:List Sq):(l.map sq).all (AG 8)=true:=DN l 7
theorem VP (q:Sq):(nbM q).Nodup:=by
 obtain ⟨a,b⟩:=q
 simp only [nbM,List.nodup_cons,List.mem_cons,List.not_mem_nil,or_false,Prod.mk.injEq,List.nodup_nil,and_true,not_false_eq_true]
 lia
def Kz:SpD:=fun ds G R=>∃(F:List Sq) (q:Sq),ds=[fl F,sq q]/\R (.lst (((nbM q).filter F.contains).map sq)) G
def NM:SpD:=fun ds G R=>∃(ns:List Int),ds=[.scr ns]/\R (.bl true) G
theorem jY (l:List Dat):LN l (some 1) none=l.drop 1:=by
 unfold LN
 cases l with
 |nil=>rfl
 |cons x r=>
  have e:HT.sIx (x::r).length 0 (some 1)=1:=by
   have:=HT.sIx_nat (x::r).length 0 1
   rw [show ((1:Nat):Int)=1 from rfl]at this
   rw [this,List.length_cons]
   lia
  rw [e,HT.sIx_none]
  simp
end TF
namespace TS
open PySem PyProof.Rows
section
variable {prog:Program}{w:World}{A:Around}{E:Value->Shared->Prop}{s:Shared}{a₀:Array Keyed}{r:Keyed->Nat}{k0:SortKind}
def CmpOk (prog:Program) (w:World) (A:Around) (s:Shared) (a₀:Array Keyed) (r:Keyed->Nat) (k0:SortKind):Prop:=
 ∀x y,x∈a₀.toList->y∈a₀.toList->∀(E:Value->Shared->Prop) (Q:Bool->Shared->Prop),Q (decide (r x<r y)) s->wpAny (model prog w) A (keyLt' k0 x.1 y.1) Q E s
structure SB (a₀:Array Keyed) (k0:SortKind) (st:SortSt):Prop where
 perm:(arrOf st).Perm a₀
 kind:kindOf st=k0
 failed:failedOf st=none
theorem SB.size {st:SortSt} (h:SB a₀ k0 st):(arrOf st).size=a₀.size:=h.perm.size_eq
theorem SB.mem {st:SortSt} (h:SB a₀ k0 st) {p:Keyed} (hp:p∈(arrOf st).toList):p∈a₀.toList:=(Array.perm_iff_toList_perm.mp h.perm).mem_iff.mp hp
theorem SB.memAt {st:SortSt} (h:SB a₀ k0 st) {i:Nat} {p:Keyed} (hp:(arrOf st)[i]?=some p):p∈a₀.toList:=h.mem (by
 have:=Array.mem_of_getElem? hp
 exact Array.mem_toList_iff.mpr this)
theorem SB.setArr {st:SortSt} (h:SB a₀ k0 st) {xs:Array Keyed} (hp:xs.Perm (arrOf st)):SB a₀ k0 (setArr st xs):=⟨hp.trans h.perm,h.kind,h.failed⟩
def Rk (r:Keyed->Nat) (xs:Array Keyed) (i:Nat):Nat:=match xs[i]? with
 |some p=>r p
 |none=>0
theorem SJ {xs:Array Keyed} {i:Nat} {p:Keyed} (h:xs[i]?=some p):Rk r xs i=r p:=by unfold Rk;rw [h]
theorem Fb {xs ys:Array Keyed} {i j:Nat} (h:xs[i]?=ys[j]?):Rk r xs i=Rk r ys j:=by unfold Rk;rw [h]
theorem EG {xs:Array Keyed} {i j:Nat} (hj:j≤xs.size) (k:Nat):Rk r (mirror xs i j ((j-i) / 2)) k=if i≤k/\k<j then Rk r xs (i+j-1-k)else Rk r xs k:=by
 have e:=getElem?_mirror_all (i:=i) hj k
 by_cases h:i≤k/\k<j
 ·rw [if_pos h]at e ⊢;exact Fb e
 ·rw [if_neg h]at e ⊢;exact Fb e
theorem UL {xs:Array Keyed} {i j:Nat} (hj:j≤xs.size) {k:Nat} (hk:k<i):(mirror xs i j ((j-i) / 2))[k]?=xs[k]?:=by
 rw [getElem?_mirror_all (i:=i) hj k,if_neg (by lia)]
theorem K8 (hc:CmpOk prog w A s a₀ r k0) {st:SortSt} (hB:SB a₀ k0 st) {x y:Keyed} (hx:x∈a₀.toList) (hy:y∈a₀.toList) {Q:Option Bool->SortSt->Prop} (h:Q (some (decide (r x<r y))) st):wpS (model prog w) A E s (lt' x y) Q st:=by
 rw [lt'_eq]
 refine wpS_bind (wpS_get ?_)
 rw [hB.kind]
 refine wpS_bind (wpS_lift (wpAny_attempt (hc x y hx hy _ _ ⟨rfl,?_⟩)))
 exact wpS_pure h
theorem Ad {st:SortSt} {xs:Array Keyed} {i:Nat} {p:Keyed} (hp:xs[i]?=some p) {Q:Keyed->SortSt->Prop} (h:Q p st):wpS (model prog w) A E s (elem' xs i) Q st:=by
 rw [elem'_eq,hp]
 exact wpS_pure h
theorem EJ (hc:CmpOk prog w A s a₀ r k0) {st:SortSt} (hB:SB a₀ k0 st) {i j:Nat} (hi:i<a₀.size) (hj:j<a₀.size) {Q:Option Bool->SortSt->Prop} (h:Q (some (decide (Rk r (arrOf st) i<Rk r (arrOf st) j))) st):wpS (model prog w) A E s (ltAt' i j) Q st:=by
 have ei:(arrOf st)[i]?=some ((arrOf st)[i]'(by rw [hB.size];exact hi)):=getElem?_pos _ i (by rw [hB.size];exact hi)
 have ej:(arrOf st)[j]?=some ((arrOf st)[j]'(by rw [hB.size];exact hj)):=getElem?_pos _ j (by rw [hB.size];exact hj)
 rw [SJ ei,SJ ej]at h
 rw [ltAt'_eq]
 refine wpS_bind (wpS_get ?_)
 refine wpS_bind (Ad ei ?_)
 refine wpS_bind (Ad ej ?_)
 exact K8 hc hB (hB.memAt ei) (hB.memAt ej) h
def MW:Nat->Nat->StateT SortSt Sem (Option Nat):=sortPriv% PySem.Builtin.countRun
def JJ:Nat->Nat->Nat->StateT SortSt Sem Bool:=sortPriv% PySem.Builtin.binarySort
def JY:Bool->Keyed->Array Keyed->Nat->Nat->Nat->StateT SortSt Sem (Option Nat):=sortPriv% PySem.Builtin.gallop
def Om:Array Keyed->Array Keyed->StateT SortSt Sem (Array Keyed):=sortPriv% PySem.Builtin.mergeLo
def Ny:Array Keyed->Array Keyed->StateT SortSt Sem (Array Keyed):=sortPriv% PySem.Builtin.mergeHi
structure Kp (a₀:Array Keyed) (k0:SortKind) (lo:Nat) (st AO:SortSt):Prop where
 base:SB a₀ k0 AO
 pend:pendingOf AO=pendingOf st
 low:∀k,k<lo->(arrOf AO)[k]?=(arrOf st)[k]?
theorem Kp.refl {st:SortSt} {lo:Nat} (h:SB a₀ k0 st):Kp a₀ k0 lo st st:=⟨h,rfl,fun _ _=>rfl⟩
theorem Kp.trans {st BS DC:SortSt} {lo:Nat} (h:Kp a₀ k0 lo st BS) (h':Kp a₀ k0 lo BS DC):Kp a₀ k0 lo st DC:=⟨h'.base,h'.pend.trans h.pend,fun k hk=>(h'.low k hk).trans (h.low k hk)⟩
theorem Kp.mirror {st:SortSt} {lo i j:Nat} (h:SB a₀ k0 st) (hi:lo≤i) (hj:j≤a₀.size):Kp a₀ k0 lo st (PyProof.Rows.setArr st (mirror (arrOf st) i j ((j-i) / 2))):=
 ⟨h.setArr (mirror_perm _ _ _ _),rfl,fun k hk=>UL (by rw [h.size];exact hj) (by lia)⟩
def Up (r:Keyed->Nat) (xs:Array Keyed) (a b:Nat):Prop:=∀i j,a≤i->i≤j->j<b->Rk r xs i≤Rk r xs j
def Dn (r:Keyed->Nat) (xs:Array Keyed) (a b:Nat):Prop:=∀i j,a≤i->i≤j->j<b->Rk r xs j≤Rk r xs i
theorem bM (xs:Array Keyed) (a:Nat):Up r xs a (a+1):=fun i j h1 h2 h3=>by
 obtain rfl:i=j:=by lia
 exact Nat.le_refl _
theorem R0 {xs:Array Keyed} {a b:Nat} (h:Up r xs a b) (M8:a<b) (hl:Rk r xs (b-1)≤Rk r xs b):Up r xs a (b+1):=fun i j h1 h2 h3=>by
 by_cases hj:j<b
 ·exact h i j h1 h2 hj
 ·obtain rfl:j=b:=by lia
  by_cases hi:i=j
  ·subst hi;exact Nat.le_refl _
  ·exact Nat.le_trans (h i (j-1) h1 (by lia) (by lia)) hl
theorem NG {xs:Array Keyed} {a b:Nat} (h:Dn r xs a b) (M8:a<b) (hl:Rk r xs b≤Rk r xs (b-1)):Dn r xs a (b+1):=fun i j h1 h2 h3=>by
 by_cases hj:j<b
 ·exact h i j h1 h2 hj
 ·obtain rfl:j=b:=by lia
  by_cases hi:i=j
  ·subst hi;exact Nat.le_refl _
  ·exact Nat.le_trans hl (h i (j-1) h1 (by lia) (by lia))
theorem QS {M:Model} {σ α:Type} {c:Prop} [Decidable c] {m t:StateT σ Sem α} {Q:α->σ->Prop} {st:σ} {P:σ->Prop} (ht:∀BS,P BS->wpS M A E s t Q BS) (h:(∀BS,P BS->wpS M A E s t Q BS)->wpS M A E s (if c then m else t) Q st):wpS M A E s (if c then m else t) Q st:=h ht
theorem N6 {M:Model} {σ α:Type} {c:Prop} [Decidable c] {m t:StateT σ Sem α} {Q:α->σ->Prop} {st:σ} {P:σ->Prop} (ht:∀BS,P BS->wpS M A E s t Q BS) (h:(∀BS,P BS->wpS M A E s t Q BS)->wpS M A E s (if c then m else t) Q st):wpS M A E s (if c then m else t) Q st:=h ht
theorem NB (hc:CmpOk prog w A s a₀ r k0) {st:SortSt} (hB:SB a₀ k0 st) {lo nrem:Nat} (h1:1≤nrem) (h2:lo+nrem≤a₀.size) {Q:Option Nat->SortSt->Prop}
  (h:∀m AO,1≤m->m≤nrem->Kp a₀ k0 lo st AO->Up r (arrOf AO) lo (lo+m)->Q (some m) AO):wpS (model prog w) A E s (MW lo nrem) Q st:=by
 unfold MW
 refine wpS_bind (wpS_mono (wpS_forRange (I:=fun x c AO=>AO=st/\c=(none,x)/\x≤nrem/\Up r (arrOf st) lo (lo+x))
  (Q:=fun c AO=>AO=st/\∃n,c=(none,n)/\1≤n/\n≤nrem/\Up r (arrOf st) lo (lo+n)/\(n=nrem\/Rk r (arrOf st) (lo+n)<Rk r (arrOf st) (lo+n-1))) ?_ ?_ ⟨rfl,rfl,h1,bM _ _⟩) ?_)
 ·rintro x c AO RH UU ⟨rfl,rfl,hx,hU⟩
  refine wpS_bind (EJ hc hB (by lia) (by lia) ?_)
  dsimp only
  by_cases A4:Rk r (arrOf AO) (lo+x)<Rk r (arrOf AO) (lo+x-1)
  ·rw [decide_eq_true A4,if_pos rfl]
   exact wpS_pure ⟨rfl,x,rfl,RH,hx,hU,.inr A4⟩
  ·rw [decide_eq_false A4,if_neg (by decide)]
   exact wpS_pure ⟨rfl,rfl,by lia,R0 (b:=lo+x) hU (by lia) (by lia)⟩
 ·rintro c AO ⟨rfl,rfl,hx,hU⟩
  have e:max 1 nrem=nrem:=by lia
  rw [e]at hU ⊢
  exact ⟨rfl,nrem,rfl,h1,Nat.le_refl _,hU,.inl rfl⟩
 rintro c AO ⟨rfl,n,rfl,fu,bZ,hU,oH⟩
 dsimp only
 by_cases hnn:n=nrem
 ·rw [if_pos (by simpa using hnn)]
  exact wpS_pure (h n _ fu bZ (Kp.refl hB) hU)
 rw [if_neg (by simpa using hnn)]
 have A4:=oH.resolve_left hnn
 refine QS (P:=fun BS=>Kp a₀ k0 lo AO BS/\Dn r (arrOf BS) lo (lo+(n+1))) ?tail ?rest
 case rest=>
  intro tail
  by_cases hgt:n > 1
  ·rw [if_pos hgt]
   refine wpS_bind (EJ hc hB (by lia) (by lia) ?_)
   dsimp only
   by_cases hrose:Rk r (arrOf AO) lo<Rk r (arrOf AO) (lo+n-1)
   ·rw [decide_eq_true hrose,if_pos rfl]
    exact wpS_pure (h n _ fu bZ (Kp.refl hB) hU)
   ·rw [decide_eq_false hrose,if_neg (by decide)]
    refine wpS_bind (wpS_modify (tail _ ⟨Kp.mirror hB (Nat.le_refl _) (by lia),?_⟩))
    have hsz:lo+n≤(arrOf AO).size:=by rw [hB.size];lia
    have heq:∀k,lo≤k->k<lo+n->Rk r (arrOf AO) k=Rk r (arrOf AO) (lo+n-1):=fun k g1 g2=>by
     have:=hU lo k (Nat.le_refl _) g1 g2
     have:=hU k (lo+n-1) g1 (by lia) (by lia)
     lia
    have hR:∀k,Rk r (mirror (arrOf AO) lo (lo+n) ((lo+n-lo) / 2)) k=Rk r (arrOf AO) k:=fun k=>by
     rw [EG hsz]
     split
     ·rw [heq _ (by lia) (by lia),heq k (by lia) (by lia)]
     ·rfl
    intro i j g1 g2 g3
    show Rk r (mirror (arrOf AO) lo (lo+n) ((lo+n-lo) / 2)) j≤Rk r (mirror (arrOf AO) lo (lo+n) ((lo+n-lo) / 2)) i
    rw [hR,hR]
    by_cases hj:j=lo+n
    ·subst hj
     by_cases hi:i=lo+n
     ·subst hi;exact Nat.le_refl _
     ·rw [heq i g1 (by lia)];lia
    ·rw [heq i g1 (by lia),heq j (by lia) (by lia)]
     exact Nat.le_refl _
  ·rw [if_neg hgt]
   obtain rfl:n=1:=by lia
   refine tail _ ⟨Kp.refl hB,?_⟩
   intro i j g1 g2 g3
   by_cases hi:i=j
   ·subst hi;exact Nat.le_refl _
   ·obtain rfl:i=lo:=by lia
    obtain rfl:j=i+1:=by lia
    have:i+1-1=i:=by lia
    rw [this]at A4
    lia
 case tail=>
  rintro BS ⟨qe,uk⟩
  refine wpS_bind (wpS_lift (wpAny_rule ⟨rfl,?_⟩))
  refine wpS_bind (wpS_mono (wpS_forRange (I:=fun x c AO=>∃M7,c=(none,x,M7)/\x≤nrem/\Kp a₀ k0 lo BS AO/\Dn r (arrOf AO) lo (lo+x)/\M7+1≤x/\∀i,lo+x-(M7+1)≤i->i<lo+x->Rk r (arrOf AO) i=Rk r (arrOf AO) (lo+x-1))
   (Q:=fun c AO=>∃m M7,c=(none,m,M7)/\n+1≤m/\m≤nrem/\Kp a₀ k0 lo BS AO/\Dn r (arrOf AO) lo (lo+m)/\M7+1≤m/\∀i,lo+m-(M7+1)≤i->i<lo+m->Rk r (arrOf AO) i=Rk r (arrOf AO) (lo+m-1)) ?_ ?_ ⟨0,rfl,by lia,Kp.refl qe.base,uk,by lia,fun i g1 g2=>by congr 1;lia⟩) ?_)
  ·rintro x c DC RH UU ⟨M7,rfl,hx,Lp,Wr,hq,he⟩
   have hsz:lo+x≤(arrOf DC).size:=by rw [Lp.base.size];lia
   dsimp only
   refine wpS_bind (EJ hc Lp.base (by lia) (by lia) ?_)
   dsimp only
   by_cases SW:Rk r (arrOf DC) (lo+x)<Rk r (arrOf DC) (lo+x-1)
   ·rw [decide_eq_true SW,if_pos rfl]
    by_cases hneq:M7 > 0
    ·rw [if_pos hneq]
     refine wpS_bind (wpS_modify (wpS_pure ⟨0,rfl,by lia,Lp.trans (Kp.mirror Lp.base (by lia) (by lia)),?_,by lia,fun i g1 g2=>by congr 1;lia⟩))
     have hR:∀k,Rk r (mirror (arrOf DC) (lo+x-(M7+1)) (lo+x) ((lo+x-(lo+x-(M7+1))) / 2)) k=Rk r (arrOf DC) k:=fun k=>by
      rw [EG hsz]
      split
      ·rw [he _ (by lia) (by lia),he k (by lia) (by lia)]
      ·rfl
     intro i j g1 g2 g3
     show Rk r (mirror (arrOf DC) _ _ _) j≤Rk r (mirror (arrOf DC) _ _ _) i
     rw [hR,hR]
     exact NG (b:=lo+x) Wr (by lia) (by lia) i j g1 g2 g3
    ·rw [if_neg hneq]
     exact wpS_pure ⟨0,rfl,by lia,Lp,NG (b:=lo+x) Wr (by lia) (by lia),by lia,fun i g1 g2=>by congr 1;lia⟩
   ·rw [decide_eq_false SW,if_neg (by decide)]
    refine wpS_bind (EJ hc Lp.base (by lia) (by lia) ?_)
    dsimp only
    by_cases ZE:Rk r (arrOf DC) (lo+x-1)<Rk r (arrOf DC) (lo+x)
    ·rw [decide_eq_true ZE,if_pos rfl]
     exact wpS_pure ⟨x,M7,rfl,RH,hx,Lp,Wr,hq,he⟩
    ·rw [decide_eq_false ZE,if_neg (by decide)]
     refine wpS_pure ⟨M7+1,rfl,by lia,Lp,NG (b:=lo+x) Wr (by lia) (by lia),by lia,fun i g1 g2=>?_⟩
     have e:lo+(x+1)-1=lo+x:=by lia
     rw [e]
     by_cases hi:i=lo+x
     ·subst hi;rfl
     ·rw [he i (by lia) (by lia)];lia
  ·rintro c DC ⟨M7,rfl,hx,Lp,Wr,hq,he⟩
   have e:max (n+1) nrem=nrem:=by lia
   rw [e]at Wr hq he ⊢
   exact ⟨nrem,M7,rfl,by lia,Nat.le_refl _,Lp,Wr,hq,he⟩
  rintro c DC ⟨m,M7,rfl,Vw,ao,Lp,Wr,hq,he⟩
  dsimp only
  have hsz:lo+m≤(arrOf DC).size:=by rw [Lp.base.size];lia
  refine N6 (P:=fun GN=>Kp a₀ k0 lo BS GN/\Dn r (arrOf GN) lo (lo+m)) ?_ ?_
  ·rintro GN ⟨Y2,vH⟩
   have Mn:lo+m≤(arrOf GN).size:=by rw [Y2.base.size];lia
   have qJ:=Kp.mirror (lo:=lo) (i:=lo) (j:=lo+m) Y2.base (Nat.le_refl _) (by lia)
   refine wpS_bind (wpS_modify ?_)
   refine wpS_bind (wpS_mono (wpS_forRange (I:=fun x c AO=>AO=PyProof.Rows.setArr GN (mirror (arrOf GN) lo (lo+m) ((lo+m-lo) / 2))/\c=(none,x)/\x≤nrem/\Up r (mirror (arrOf GN) lo (lo+m) ((lo+m-lo) / 2)) lo (lo+x))
    (Q:=fun c AO=>AO=PyProof.Rows.setArr GN (mirror (arrOf GN) lo (lo+m) ((lo+m-lo) / 2))/\∃n,c=(none,n)/\1≤n/\n≤nrem/\Up r (mirror (arrOf GN) lo (lo+m) ((lo+m-lo) / 2)) lo (lo+n)) ?_ ?_ ⟨rfl,rfl,ao,?_⟩) ?_)
   ·rintro x c AO RH UU ⟨rfl,rfl,hx,hU⟩
    refine wpS_bind (EJ hc qJ.base (by lia) (by lia) ?_)
    dsimp only
    by_cases A4:Rk r (mirror (arrOf GN) lo (lo+m) ((lo+m-lo) / 2)) (lo+x)<Rk r (mirror (arrOf GN) lo (lo+m) ((lo+m-lo) / 2)) (lo+x-1)
    ·rw [decide_eq_true A4,if_pos rfl]
     exact wpS_pure ⟨rfl,x,rfl,by lia,hx,hU⟩
    ·rw [decide_eq_false A4,if_neg (by decide)]
     exact wpS_pure ⟨rfl,rfl,by lia,R0 (b:=lo+x) hU (by lia) (by lia)⟩
   ·rintro c AO ⟨rfl,rfl,hx,hU⟩
    have e:max m nrem=nrem:=by lia
    rw [e]at hU ⊢
    exact ⟨rfl,nrem,rfl,h1,Nat.le_refl _,hU⟩
   ·intro i j g1 g2 g3
    rw [EG Mn,EG Mn,if_pos (by lia),if_pos (by lia)]
    exact vH _ _ (by lia) (by lia) (by lia)
   ·rintro c AO ⟨rfl,n',rfl,kD,lu,vJ⟩
    exact wpS_pure (h n' _ kD lu (qe.trans (Y2.trans qJ)) vJ)
  ·intro tail
   by_cases hneq:M7 > 0
   ·rw [if_pos hneq]
    refine wpS_bind (wpS_modify (tail _ ⟨Lp.trans (Kp.mirror Lp.base (by lia) (by lia)),?_⟩))
    have hR:∀k,Rk r (mirror (arrOf DC) (lo+m-(M7+1)) (lo+m) ((lo+m-(lo+m-(M7+1))) / 2)) k=Rk r (arrOf DC) k:=fun k=>by
     rw [EG hsz]
     split
     ·rw [he _ (by lia) (by lia),he k (by lia) (by lia)]
     ·rfl
    intro i j g1 g2 g3
    show Rk r (mirror (arrOf DC) _ _ _) j≤Rk r (mirror (arrOf DC) _ _ _) i
    rw [hR,hR]
    exact Wr i j g1 g2 g3
   ·rw [if_neg hneq]
    exact tail _ ⟨Lp,Wr⟩
end
section
variable {prog:Program}{w:World}{A:Around}{E:Value->Shared->Prop}{s:Shared}{a₀:Array Keyed}{r:Keyed->Nat}{k0:SortKind}
theorem MU {xs:Array Keyed} {src d:Nat} (hs:src<xs.size) (hd:d≤src) (k:Nat):Rk r (bubble xs src d) k=if k=src-d then Rk r xs src else if src-d<k/\k≤src then Rk r xs (k-1)else Rk r xs k:=by
 have e:=getElem?_bubble hs d hd k
 by_cases h1:k=src-d
 ·rw [if_pos h1]at e ⊢;exact Fb e
 ·rw [if_neg h1]at e ⊢
  by_cases h2:src-d<k/\k≤src
  ·rw [if_pos h2]at e ⊢;exact Fb e
  ·rw [if_neg h2]at e ⊢;exact Fb e
theorem KS (hc:CmpOk prog w A s a₀ r k0) {st:SortSt} (hB:SB a₀ k0 st) {lo n ok:Nat} (h2:lo+n≤a₀.size) (hok:ok≤n) (hU:Up r (arrOf st) lo (lo+ok)) {Q:Bool->SortSt->Prop}
  (h:∀AO,Kp a₀ k0 lo st AO->Up r (arrOf AO) lo (lo+n)->Q true AO):wpS (model prog w) A E s (JJ lo n ok) Q st:=by
 unfold JJ
 refine wpS_bind (wpS_mono (wpS_forRange (I:=fun k c AO=>c=(none,())/\Kp a₀ k0 lo st AO/\Up r (arrOf AO) lo (lo+min k n))
  (Q:=fun c AO=>c=(none,())/\Kp a₀ k0 lo st AO/\Up r (arrOf AO) lo (lo+n)) ?_ ?_ ⟨rfl,Kp.refl hB,?_⟩) ?_)
 ·rintro k c BS Mx Dr ⟨rfl,hK,Y0⟩
  have e:min k n=k:=by lia
  rw [e]at Y0
  have hsz:lo+k<(arrOf BS).size:=by rw [hK.base.size];lia
  dsimp only
  refine wpS_bind (wpS_mono (wpS_forRange (I:=fun x c AO=>AO=BS/\∃l u,c=(none,l,u)/\l≤u/\u≤k/\u-l≤k-x/\(∀i,i<l->Rk r (arrOf BS) (lo+i)≤Rk r (arrOf BS) (lo+k))/\∀i,u≤i->i<k->Rk r (arrOf BS) (lo+k)<Rk r (arrOf BS) (lo+i))
   (Q:=fun c AO=>AO=BS/\∃l u,c=(none,l,u)/\l≤k/\(∀i,i<l->Rk r (arrOf BS) (lo+i)≤Rk r (arrOf BS) (lo+k))/\∀i,l≤i->i<k->Rk r (arrOf BS) (lo+k)<Rk r (arrOf BS) (lo+i)) ?_ ?_ ⟨rfl,0,k,rfl,by lia,by lia,by lia,fun i hi=>by lia,fun i g1 g2=>by lia⟩) ?_)
  ·rintro x c DC RH UU ⟨rfl,l,u,rfl,g1,g2,g3,g4,g5⟩
   dsimp only
   by_cases Ll:l≥u
   ·rw [if_pos Ll]
    exact wpS_pure ⟨rfl,l,u,rfl,by lia,g4,fun i q1 q2=>g5 i (by lia) q2⟩
   ·rw [if_neg Ll]
    refine wpS_bind (EJ hc hK.base (by lia) (by lia) ?_)
    dsimp only
    by_cases hl:Rk r (arrOf DC) (lo+k)<Rk r (arrOf DC) (lo+(l+u) / 2)
    ·rw [decide_eq_true hl,if_pos rfl]
     refine wpS_pure ⟨rfl,l,(l+u) / 2,rfl,by lia,by lia,by lia,g4,fun i q1 q2=>?_⟩
     have:=Y0 (lo+(l+u) / 2) (lo+i) (by lia) (by lia) (by lia)
     lia
    ·rw [decide_eq_false hl,if_neg (by decide)]
     refine wpS_pure ⟨rfl,(l+u) / 2+1,u,rfl,by lia,by lia,by lia,fun i q1=>?_,g5⟩
     have:=Y0 (lo+i) (lo+(l+u) / 2) (by lia) (by lia) (by lia)
     lia
  ·rintro c DC ⟨rfl,l,u,rfl,g1,g2,g3,g4,g5⟩
   exact ⟨rfl,l,u,rfl,by lia,g4,fun i q1 q2=>g5 i (by lia) q2⟩
  ·rintro c DC ⟨rfl,l,u,rfl,g1,g2,g3⟩
   dsimp only
   refine wpS_bind (wpS_modify (wpS_pure ⟨rfl,hK.trans ⟨hK.base.setArr (bubble_perm _ (lo+k) (lo+k-(lo+l))),rfl,fun q hq=>?_⟩,?_⟩))
   ·show (bubble (arrOf DC) (lo+k) (lo+k-(lo+l)))[q]?=_
    rw [getElem?_bubble hsz _ (by lia),if_neg (by lia),if_neg (by lia)]
   ·have e1:min (k+1) n=k+1:=by lia
    rw [e1]
    intro i j q1 q2 q3
    show Rk r (bubble (arrOf DC) (lo+k) (lo+k-(lo+l))) i≤Rk r (bubble (arrOf DC) (lo+k) (lo+k-(lo+l))) j
    rw [MU hsz (by lia),MU hsz (by lia),show lo+k-(lo+k-(lo+l))=lo+l by lia]
    have a1:∀i,lo≤i->i<lo+l->Rk r (arrOf DC) i≤Rk r (arrOf DC) (lo+k):=fun i z1 z2=>by
     have:=g2 (i-lo) (by lia)
     rwa [show lo+(i-lo)=i by lia]at this
    have a2:∀i,lo+l≤i->i<lo+k->Rk r (arrOf DC) (lo+k)<Rk r (arrOf DC) i:=fun i z1 z2=>by
     have:=g3 (i-lo) (by lia) (by lia)
     rwa [show lo+(i-lo)=i by lia]at this
    repeat' split
    all_goals first
     |(exfalso;lia)
     |exact Nat.le_refl _
     |exact Nat.le_of_lt (a2 _ (by lia) (by lia))
     |exact a1 _ (by lia) (by lia)
     |exact Y0 _ _ (by lia) (by lia) (by lia)
 ·rintro c BS ⟨rfl,hK,Y0⟩
  refine ⟨rfl,hK,?_⟩
  have e:min (max (max ok 1) n) n=n:=by lia
  rwa [e]at Y0
 ·intro i j g1 g2 g3
  by_cases h0:ok=0
  ·obtain rfl:i=j:=by lia
   exact Nat.le_refl _
  ·exact hU i j g1 g2 (by lia)
 ·rintro c BS ⟨rfl,hK,Y0⟩
  exact wpS_pure (h BS hK Y0)
def Bf (r:Keyed->Nat) (left:Bool) (key:Keyed) (xs:Array Keyed) (i:Nat):Bool:=if left then decide (Rk r xs i<r key)else !decide (r key<Rk r xs i)
theorem Xk {left:Bool} {key:Keyed} {xs:Array Keyed} {a b i j:Nat} (hU:Up r xs a b) (h1:a≤i) (h2:i≤j) (h3:j<b) (h:Bf r left key xs j=true):Bf r left key xs i=true:=by
 have:=hU i j h1 h2 h3
 unfold Bf at *
 cases left
 ·simp at *;lia
 ·simp at *;lia
theorem KJ (hc:CmpOk prog w A s a₀ r k0) {st:SortSt} (hB:SB a₀ k0 st) {left:Bool} {key:Keyed} {xs:Array Keyed} {base n hint:Nat} (hk:key∈a₀.toList) (hx:∀p∈xs.toList,p∈a₀.toList) (hsz:base+n≤xs.size) (hh:hint<n) (hU:Up r xs base (base+n))
  {Q:Option Nat->SortSt->Prop} (h:∀k,k≤n->(∀i,i<k->Bf r left key xs (base+i)=true)->(∀i,k≤i->i<n->Bf r left key xs (base+i)=false)->Q (some k) st):wpS (model prog w) A E s (JY left key xs base n hint) Q st:=by
 have beyond:∀(i:Nat) (Q:Option Bool->SortSt->Prop),i<n->Q (some (Bf r left key xs (base+i))) st->wpS (model prog w) A E s (do
   let x <-elem' xs (base+i)
   if left then lt' x key else return (<-lt' key x).map (!·)) Q st:=by
  intro i Q hi hQ
  have e:xs[base+i]?=some (xs[base+i]'(by lia)):=getElem?_pos _ _ (by lia)
  have hm:(xs[base+i]'(by lia))∈a₀.toList:=hx _ (Array.mem_toList_iff.mpr (Array.mem_of_getElem? e))
  refine wpS_bind (Ad e ?_)
  unfold Bf at hQ
  rw [SJ e]at hQ
  cases left with
  |true=>
   rw [if_pos rfl]at hQ ⊢
   exact K8 hc hB hm hk hQ
  |false=>
   rw [if_neg (by decide)]at hQ ⊢
   exact wpS_bind (K8 hc hB hk hm (wpS_pure hQ))
 have mono:∀i j,i≤j->j<n->Bf r left key xs (base+j)=true->Bf r left key xs (base+i)=true:=fun i j g1 g2 g3=>Xk hU (by lia) (by lia) (by lia) g3
 have SI:∀i j,i≤j->j<n->Bf r left key xs (base+i)=false->Bf r left key xs (base+j)=false:=fun i j g1 g2 g3=>by
  cases e:Bf r left key xs (base+j)with
  |false=>rfl
  |true=>rw [mono i j g1 g2 e]at g3;cases g3
 unfold JY
 refine wpS_bind (beyond hint _ hh ?_)
 dsimp only
 cases hr:Bf r left key xs (base+hint)with
 |true=>
  rw [if_pos rfl]
  refine wpS_bind (wpS_mono (wpS_forRange (I:=fun x c AO=>AO=st/\∃la o,c=(none,la,o)/\la<o/\x+1≤o/\la<n-hint/\Bf r left key xs (base+(hint+la))=true)
   (Q:=fun c AO=>AO=st/\∃la o,c=(none,la,o)/\la<o/\la<n-hint/\Bf r left key xs (base+(hint+la))=true/\(n-hint≤o\/Bf r left key xs (base+(hint+o))=false)) ?_ ?_ ⟨rfl,0,1,rfl,by lia,by lia,by lia,hr⟩) ?_)
  ·rintro x c AO RH UU ⟨rfl,la,o,rfl,g1,g2,g3,g4⟩
   dsimp only
   by_cases Ll:o≥n-hint
   ·rw [if_pos Ll]
    exact wpS_pure ⟨rfl,la,o,rfl,g1,g3,g4,.inl Ll⟩
   ·rw [if_neg Ll]
    refine wpS_bind (beyond (hint+o) _ (by lia) ?_)
    dsimp only
    cases hb:Bf r left key xs (base+(hint+o))with
    |true=>
     rw [if_neg (by decide)]
     exact wpS_pure ⟨rfl,o,2*o+1,rfl,by lia,by lia,by lia,hb⟩
    |false=>
     rw [if_pos (by decide)]
     exact wpS_pure ⟨rfl,la,o,rfl,g1,g3,g4,.inr hb⟩
  ·rintro c AO ⟨rfl,la,o,rfl,g1,g2,g3,g4⟩
   exact ⟨rfl,la,o,rfl,g1,g3,g4,.inl (by lia)⟩
  rintro c AO ⟨rfl,la,o,rfl,g1,g3,g4,g5⟩
  dsimp only
  have t1:∀i,i<hint+la+1->Bf r left key xs (base+i)=true:=fun i hi=>mono i (hint+la) (by lia) (by lia) g4
  have t2:∀i,hint+min o (n-hint)≤i->i<n->Bf r left key xs (base+i)=false:=fun i q1 q2=>by
   rcases g5 with z|z
   ·lia
   ·exact SI (hint+o) i (by lia) q2 z
  refine wpS_bind (wpS_mono (wpS_forRange (I:=fun x c BS=>BS=AO/\∃l u,c=(none,l,u)/\l≤u/\u≤n/\u-l≤n-x/\(∀i,i<l->Bf r left key xs (base+i)=true)/\∀i,u≤i->i<n->Bf r left key xs (base+i)=false)
   (Q:=fun c BS=>BS=AO/\∃l u,c=(none,l,u)/\u≤n/\(∀i,i<u->Bf r left key xs (base+i)=true)/\∀i,u≤i->i<n->Bf r left key xs (base+i)=false) ?_ ?_ ⟨rfl,_,_,rfl,by lia,by lia,by lia,t1,t2⟩) ?_)
  ·rintro x c BS RH UU ⟨rfl,l,u,rfl,q1,q2,q3,q4,q5⟩
   dsimp only
   by_cases Ll:l≥u
   ·rw [if_pos Ll]
    exact wpS_pure ⟨rfl,l,u,rfl,q2,fun i hi=>q4 i (by lia),q5⟩
   ·rw [if_neg Ll]
    refine wpS_bind (beyond (l+(u-l) / 2) _ (by lia) ?_)
    dsimp only
    cases hb:Bf r left key xs (base+(l+(u-l) / 2))with
    |true=>
     rw [if_pos rfl]
     exact wpS_pure ⟨rfl,_,_,rfl,by lia,by lia,by lia,fun i hi=>mono i (l+(u-l) / 2) (by lia) (by lia) hb,q5⟩
    |false=>
     rw [if_neg (by decide)]
     exact wpS_pure ⟨rfl,_,_,rfl,by lia,by lia,by lia,q4,fun i z1 z2=>SI (l+(u-l) / 2) i z1 z2 hb⟩
  ·rintro c BS ⟨rfl,l,u,rfl,q1,q2,q3,q4,q5⟩
   exact ⟨rfl,l,u,rfl,q2,fun i hi=>q4 i (by lia),q5⟩
  ·rintro c BS ⟨rfl,l,u,rfl,q2,q4,q5⟩
   exact wpS_pure (h u q2 q4 q5)
 |false=>
  rw [if_neg (by decide)]
  refine wpS_bind (wpS_mono (wpS_forRange (I:=fun x c AO=>AO=st/\∃la o,c=(none,la,o)/\la<o/\x+1≤o/\la<hint+1/\Bf r left key xs (base+(hint-la))=false)
   (Q:=fun c AO=>AO=st/\∃la o,c=(none,la,o)/\la<o/\la<hint+1/\Bf r left key xs (base+(hint-la))=false/\(hint+1≤o\/Bf r left key xs (base+(hint-o))=true)) ?_ ?_ ⟨rfl,0,1,rfl,by lia,by lia,by lia,hr⟩) ?_)
  ·rintro x c AO RH UU ⟨rfl,la,o,rfl,g1,g2,g3,g4⟩
   dsimp only
   by_cases Ll:o≥hint+1
   ·rw [if_pos Ll]
    exact wpS_pure ⟨rfl,la,o,rfl,g1,g3,g4,.inl Ll⟩
   ·rw [if_neg Ll]
    refine wpS_bind (beyond (hint-o) _ (by lia) ?_)
    dsimp only
    cases hb:Bf r left key xs (base+(hint-o))with
    |true=>
     rw [if_pos rfl]
     exact wpS_pure ⟨rfl,la,o,rfl,g1,g3,g4,.inr hb⟩
    |false=>
     rw [if_neg (by decide)]
     exact wpS_pure ⟨rfl,o,2*o+1,rfl,by lia,by lia,by lia,hb⟩
  ·rintro c AO ⟨rfl,la,o,rfl,g1,g2,g3,g4⟩
   exact ⟨rfl,la,o,rfl,g1,g3,g4,.inl (by lia)⟩
  rintro c AO ⟨rfl,la,o,rfl,g1,g3,g4,g5⟩
  dsimp only
  have t1:∀i,i<hint+1-min o (hint+1)->Bf r left key xs (base+i)=true:=fun i hi=>by
   rcases g5 with z|z
   ·lia
   ·exact mono i (hint-o) (by lia) (by lia) z
  have t2:∀i,hint-la≤i->i<n->Bf r left key xs (base+i)=false:=fun i q1 q2=>SI (hint-la) i q1 q2 g4
  refine wpS_bind (wpS_mono (wpS_forRange (I:=fun x c BS=>BS=AO/\∃l u,c=(none,l,u)/\l≤u/\u≤n/\u-l≤n-x/\(∀i,i<l->Bf r left key xs (base+i)=true)/\∀i,u≤i->i<n->Bf r left key xs (base+i)=false)
   (Q:=fun c BS=>BS=AO/\∃l u,c=(none,l,u)/\u≤n/\(∀i,i<u->Bf r left key xs (base+i)=true)/\∀i,u≤i->i<n->Bf r left key xs (base+i)=false) ?_ ?_ ⟨rfl,_,_,rfl,by lia,by lia,by lia,t1,t2⟩) ?_)
  ·rintro x c BS RH UU ⟨rfl,l,u,rfl,q1,q2,q3,q4,q5⟩
   dsimp only
   by_cases Ll:l≥u
   ·rw [if_pos Ll]
    exact wpS_pure ⟨rfl,l,u,rfl,q2,fun i hi=>q4 i (by lia),q5⟩
   ·rw [if_neg Ll]
    refine wpS_bind (beyond (l+(u-l) / 2) _ (by lia) ?_)
    dsimp only
    cases hb:Bf r left key xs (base+(l+(u-l) / 2))with
    |true=>
     rw [if_pos rfl]
     exact wpS_pure ⟨rfl,_,_,rfl,by lia,by lia,by lia,fun i hi=>mono i (l+(u-l) / 2) (by lia) (by lia) hb,q5⟩
    |false=>
     rw [if_neg (by decide)]
     exact wpS_pure ⟨rfl,_,_,rfl,by lia,by lia,by lia,q4,fun i z1 z2=>SI (l+(u-l) / 2) i z1 z2 hb⟩
  ·rintro c BS ⟨rfl,l,u,rfl,q1,q2,q3,q4,q5⟩
   exact ⟨rfl,l,u,rfl,q2,fun i hi=>q4 i (by lia),q5⟩
  ·rintro c BS ⟨rfl,l,u,rfl,q2,q4,q5⟩
   exact wpS_pure (h u q2 q4 q5)
end
section
variable {prog:Program}{w:World}{A:Around}{E:Value->Shared->Prop}{s:Shared}{a₀:Array Keyed}{r:Keyed->Nat}{k0:SortKind}
def le (r:Keyed->Nat) (x y:Keyed):Prop:=r x≤r y
abbrev Srt (r:Keyed->Nat) (l:List Keyed):Prop:=l.Pairwise (le r)
theorem D0 {xs:Array Keyed} {i:Nat} {p:Keyed} (h:xs.toList[i]?=some p):Rk r xs i=r p:=SJ (by rw [<-Array.getElem?_toList];exact h)
theorem Y7 {xs:Array Keyed} {base n:Nat} (hsz:base+n≤xs.size) (h:Srt r ((xs.toList.drop base).take n)):Up r xs base (base+n):=by
 intro i j g1 g2 g3
 by_cases e:i=j
 ·subst e;exact Nat.le_refl _
 have hl:xs.toList.length=xs.size:=Array.length_toList
 have hi:((xs.toList.drop base).take n)[i-base]?=some (xs.toList[i]'(by lia)):=by
  rw [List.getElem?_take,if_pos (by lia),List.getElem?_drop,show base+(i-base)=i by lia,List.getElem?_eq_getElem]
 have hj:((xs.toList.drop base).take n)[j-base]?=some (xs.toList[j]'(by lia)):=by
  rw [List.getElem?_take,if_pos (by lia),List.getElem?_drop,show base+(j-base)=j by lia,List.getElem?_eq_getElem]
 obtain ⟨gv,jJ⟩:=List.getElem?_eq_some_iff.mp hi
 obtain ⟨rY,uw⟩:=List.getElem?_eq_some_iff.mp hj
 have:=List.pairwise_iff_getElem.mp h (i-base) (j-base) gv rY (by lia)
 rw [jJ,uw]at this
 rw [D0 (List.getElem?_eq_getElem (show i<xs.toList.length by lia)),D0 (List.getElem?_eq_getElem (show j<xs.toList.length by lia))]
 exact this
theorem FO (hc:CmpOk prog w A s a₀ r k0) {st:SortSt} (hB:SB a₀ k0 st) {key:Keyed} {xs:Array Keyed} {base n hint:Nat} (hk:key∈a₀.toList) (hx:∀p∈xs.toList,p∈a₀.toList) (hsz:base+n≤xs.size) (hh:hint<n) (hS:Srt r ((xs.toList.drop base).take n))
  {Q:Option Nat->SortSt->Prop} (h:∀k,k≤n->(∀c∈(xs.toList.drop base).take k,r c≤r key)->(∀c∈((xs.toList.drop base).take n).drop k,r key<r c)->Q (some k) st):wpS (model prog w) A E s (JY false key xs base n hint) Q st:=by
 refine KJ hc hB hk hx hsz hh (Y7 hsz hS) fun k Dp h1 h2=>h k Dp (fun c Rf=>?_) fun c Rf=>?_
 ·obtain ⟨i,hi⟩:=List.mem_iff_getElem?.mp Rf
  rw [List.getElem?_take]at hi
  split at hi
  ·rename_i A4
   rw [List.getElem?_drop]at hi
   have:=h1 i A4
   unfold Bf at this
   rw [D0 hi]at this
   simp at this
   exact this
  ·cases hi
 ·obtain ⟨i,hi⟩:=List.mem_iff_getElem?.mp Rf
  rw [List.getElem?_drop,List.getElem?_take]at hi
  split at hi
  ·rename_i A4
   rw [List.getElem?_drop]at hi
   have:=h2 (k+i) (by lia) A4
   unfold Bf at this
   rw [D0 hi]at this
   simp at this
   exact this
  ·cases hi
theorem Ey (hc:CmpOk prog w A s a₀ r k0) {st:SortSt} (hB:SB a₀ k0 st) {key:Keyed} {xs:Array Keyed} {base n hint:Nat} (hk:key∈a₀.toList) (hx:∀p∈xs.toList,p∈a₀.toList) (hsz:base+n≤xs.size) (hh:hint<n) (hS:Srt r ((xs.toList.drop base).take n))
  {Q:Option Nat->SortSt->Prop} (h:∀k,k≤n->(∀c∈(xs.toList.drop base).take k,r c<r key)->(∀c∈((xs.toList.drop base).take n).drop k,r key≤r c)->Q (some k) st):wpS (model prog w) A E s (JY true key xs base n hint) Q st:=by
 refine KJ hc hB hk hx hsz hh (Y7 hsz hS) fun k Dp h1 h2=>h k Dp (fun c Rf=>?_) fun c Rf=>?_
 ·obtain ⟨i,hi⟩:=List.mem_iff_getElem?.mp Rf
  rw [List.getElem?_take]at hi
  split at hi
  ·rename_i A4
   rw [List.getElem?_drop]at hi
   have:=h1 i A4
   unfold Bf at this
   rw [D0 hi]at this
   simpa using this
  ·cases hi
 ·obtain ⟨i,hi⟩:=List.mem_iff_getElem?.mp Rf
  rw [List.getElem?_drop,List.getElem?_take]at hi
  split at hi
  ·rename_i A4
   rw [List.getElem?_drop]at hi
   have:=h2 (k+i) (by lia) A4
   unfold Bf at this
   rw [D0 hi]at this
   simpa using this
  ·cases hi
theorem Ou {out C LA LB:List Keyed} (h1:Srt r (out++LA)) (h2:Srt r (out++(C++LB))) (h3:∀c∈C,∀y∈LA,r c≤r y):Srt r ((out++C)++LA)/\Srt r ((out++C)++LB):=by
 constructor
 ·rw [List.append_assoc]
  obtain ⟨a1,a2,a3⟩:=List.pairwise_append.mp h1
  obtain ⟨b1,b2,b3⟩:=List.pairwise_append.mp h2
  obtain ⟨c1,c2,c3⟩:=List.pairwise_append.mp b2
  refine List.pairwise_append.mpr ⟨a1,List.pairwise_append.mpr ⟨c1,a2,h3⟩,fun x hx y hy=>?_⟩
  rcases List.mem_append.mp hy with hy|hy
  ·exact b3 x hx y (List.mem_append_left _ hy)
  ·exact a3 x hx y hy
 ·rw [List.append_assoc];exact h2
structure ML (r:Keyed->Nat) (la lb out:List Keyed) (ia ib:Nat):Prop where
 perm:out.Perm (la.take ia++lb.take ib)
 sa:Srt r (out++la.drop ia)
 sb:Srt r (out++lb.drop ib)
theorem ML.pushB {la lb out:List Keyed} {ia ib k:Nat} (h:ML r la lb out ia ib) (hle:∀c∈(lb.drop ib).take k,∀y∈la.drop ia,r c≤r y):ML r la lb (out++(lb.drop ib).take k) ia (ib+k):=by
 have e:(lb.drop ib).take k++lb.drop (ib+k)=lb.drop ib:=by rw [<-List.drop_drop,List.take_append_drop]
 obtain ⟨p1,p2⟩:=Ou (C:=(lb.drop ib).take k) (LB:=lb.drop (ib+k)) h.sa (by rw [e];exact h.sb) hle
 refine ⟨?_,p1,p2⟩
 rw [List.take_add,<-List.append_assoc]
 exact h.perm.append_right _
theorem ML.pushA {la lb out:List Keyed} {ia ib k:Nat} (h:ML r la lb out ia ib) (hle:∀c∈(la.drop ia).take k,∀y∈lb.drop ib,r c≤r y):ML r la lb (out++(la.drop ia).take k) (ia+k) ib:=by
 have e:(la.drop ia).take k++la.drop (ia+k)=la.drop ia:=by rw [<-List.drop_drop,List.take_append_drop]
 obtain ⟨p1,p2⟩:=Ou (C:=(la.drop ia).take k) (LB:=la.drop (ia+k)) h.sb (by rw [e];exact h.sa) hle
 refine ⟨?_,p2,p1⟩
 rw [List.take_add,List.append_assoc]
 refine (h.perm.append_right _).trans ?_
 rw [List.append_assoc]
 exact List.Perm.append_left _ List.perm_append_comm
structure Mg (r:Keyed->Nat) (la lb out:List Keyed):Prop where
 perm:out.Perm (la++lb)
 srt:Srt r out
theorem ML.doneB {la lb out:List Keyed} {ia ib:Nat} (h:ML r la lb out ia ib) (hb:lb.length≤ib):Mg r la lb (out++la.drop ia++lb.drop ib):=by
 have e:lb.drop ib=[]:=List.drop_eq_nil_of_le hb
 rw [e,List.append_nil]
 refine ⟨?_,h.sa⟩
 have:=h.perm.append_right (la.drop ia)
 rw [List.take_of_length_le hb]at this
 refine this.trans ?_
 rw [List.append_assoc]
 refine (List.Perm.append_left _ List.perm_append_comm).trans ?_
 rw [<-List.append_assoc,List.take_append_drop]
theorem ML.doneA {la lb out:List Keyed} {ia ib:Nat} (h:ML r la lb out ia ib) (ha:la.length≤ia):Mg r la lb (out++la.drop ia++lb.drop ib):=by
 have e:la.drop ia=[]:=List.drop_eq_nil_of_le ha
 rw [e,List.append_nil]
 refine ⟨?_,h.sb⟩
 have:=h.perm.append_right (lb.drop ib)
 rw [List.take_of_length_le ha]at this
 refine this.trans ?_
 rw [List.append_assoc,List.take_append_drop]
theorem ML.lastA {la lb out:List Keyed} {ia ib:Nat} (h:ML r la lb out ia ib) (ha:ia+1=la.length) (hl:∀x,la[la.length-1]?=some x->∀y∈lb,r y≤r x):Mg r la lb (out++lb.drop ib++la.drop ia):=by
 have hd:∀x∈la.drop ia,∀y∈lb,r y≤r x:=fun x hx=>by
  obtain ⟨i,hi⟩:=List.mem_iff_getElem?.mp hx
  rw [List.getElem?_drop]at hi
  have:=(List.getElem?_eq_some_iff.mp hi).1
  have e:ia+i=la.length-1:=by lia
  rw [e]at hi
  exact hl x hi
 constructor
 ·have:=(h.perm.append_right (lb.drop ib)).append_right (la.drop ia)
  refine this.trans ?_
  rw [List.append_assoc,List.append_assoc,<-List.append_assoc (lb.take ib),List.take_append_drop]
  refine (List.Perm.append_left _ List.perm_append_comm).trans ?_
  rw [<-List.append_assoc,List.take_append_drop]
 ·obtain ⟨a1,a2,a3⟩:=List.pairwise_append.mp h.sa
  obtain ⟨b1,b2,b3⟩:=List.pairwise_append.mp h.sb
  refine List.pairwise_append.mpr ⟨h.sb,a2,fun x hx y hy=>?_⟩
  rcases List.mem_append.mp hx with hx|hx
  ·exact a3 x hx y hy
  ·exact hd y hy x (List.mem_of_mem_drop hx)
structure Gl (a₀:Array Keyed) (k0:SortKind) (st AO:SortSt):Prop where
 base:SB a₀ k0 AO
 arr:arrOf AO=arrOf st
 pend:pendingOf AO=pendingOf st
theorem Gl.refl {st:SortSt} (h:SB a₀ k0 st):Gl a₀ k0 st st:=⟨h,rfl,rfl⟩
theorem D8 (a:Array Keyed) (i:Nat):(a.extract i).toList=a.toList.drop i:=by
 simp [List.take_of_length_le]
theorem Es (a:Array Keyed) (i k:Nat):(a.extract i (i+k)).toList=(a.toList.drop i).take k:=by
 simp
theorem IU {a:Array Keyed} {i:Nat} (h:i<a.size):∃p,a[i]?=some p/\a.toList[i]?=some p/\p∈a.toList/\a.toList.drop i=p::a.toList.drop (i+1):=by
 have hl:i<a.toList.length:=by rw [Array.length_toList];exact h
 refine ⟨a.toList[i],?_,List.getElem?_eq_getElem hl,List.getElem_mem hl,List.drop_eq_getElem_cons hl⟩
 rw [<-Array.getElem?_toList]
 exact List.getElem?_eq_getElem hl
theorem GB {X Y:List Keyed} (h:Srt r (X++Y)):Srt r Y:=(List.pairwise_append.mp h).2.1
structure Hid (P:Prop):Prop where
 h:P
theorem Io {P Q:Prop} (c:Hid P->Q) (k:P):Q:=c ⟨k⟩
theorem PD (hc:CmpOk prog w A s a₀ r k0) {st:SortSt} (hB:SB a₀ k0 st) {a b:Array Keyed} (ha:∀p∈a.toList,p∈a₀.toList) (hb:∀p∈b.toList,p∈a₀.toList) (sa:Srt r a.toList) (sb:Srt r b.toList) (za:1≤a.size) (zb:1≤b.size)
  (hf:∀x y,a[0]?=some x->b[0]?=some y->r y≤r x) (hl:∀x,a.toList[a.toList.length-1]?=some x->∀y∈b.toList,r y≤r x) {Q:Array Keyed->SortSt->Prop}
  (h:∀out AO,Mg r a.toList b.toList out.toList->Gl a₀ k0 st AO->Q out AO):wpS (model prog w) A E s (Om a b) Q st:=by
 unfold Om
 refine wpS_bind (wpS_lift (wpAny_rule ⟨rfl,?_⟩))
 have eZ:a.toList.length=a.size:=Array.length_toList
 have yb:b.toList.length=b.size:=Array.length_toList
 obtain ⟨y0,rN,zK,zP,iO⟩:=IU (a:=b) (i:=0) (by lia)
 obtain ⟨x0,iQ,RH,UU,fR⟩:=IU (a:=a) (i:=0) (by lia)
 rw [List.drop_zero]at iO fR
 have lO:ML r a.toList b.toList (#[y0]:Array Keyed).toList 0 1:=by
  refine ⟨?_,?_,?_⟩
  ·rw [iO];simp
  ·show Srt r ([y0]++a.toList.drop 0)
   rw [List.drop_zero]
   refine List.pairwise_append.mpr ⟨List.pairwise_singleton _ _,sa,fun u hu v hv=>?_⟩
   rw [List.mem_singleton.mp hu]
   have h0:=hf x0 y0 iQ rN
   rw [fR]at hv sa
   rcases List.mem_cons.mp hv with rfl|hv
   ·exact h0
   ·exact Nat.le_trans h0 ((List.pairwise_cons.mp sa).1 v hv)
  ·show Srt r ([y0]++b.toList.drop 1)
   have:[y0]++b.toList.drop (0+1)=b.toList:=iO.symm
   rw [Nat.zero_add]at this
   rw [this];exact sb
 refine wpS_bind (Ad rN ?_)
 dsimp only
 have Mj:∀{out:Array Keyed} {ia ib:Nat},ML r a.toList b.toList out.toList ia ib->b.size≤ib->Mg r a.toList b.toList (out++a.extract ia++b.extract ib).toList:=fun hm hb=>by
  rw [Array.toList_append,Array.toList_append,D8,D8];exact hm.doneB (by lia)
 have af:∀{out:Array Keyed} {ia ib:Nat},ML r a.toList b.toList out.toList ia ib->a.size≤ia->Mg r a.toList b.toList (out++a.extract ia++b.extract ib).toList:=fun hm hb=>by
  rw [Array.toList_append,Array.toList_append,D8,D8];exact hm.doneA (by lia)
 have Nh:∀{out:Array Keyed} {ia ib:Nat},ML r a.toList b.toList out.toList ia ib->ia+1=a.size->Mg r a.toList b.toList (out++b.extract ib++a.extract ia).toList:=fun hm hb=>by
  rw [Array.toList_append,Array.toList_append,D8,D8];exact hm.lastA (by lia) hl
 have pB:∀{out:Array Keyed} {ia ib:Nat} {p:Keyed},ML r a.toList b.toList out.toList ia ib->b.toList.drop ib=p::b.toList.drop (ib+1)->(∀y∈a.toList.drop ia,r p≤r y)->ML r a.toList b.toList (out.push p).toList ia (ib+1):=fun {out ia ib p} hm hd hle=>by
  have:=hm.pushB (k:=1) (fun c hc y hy=>by rw [hd]at hc;simp at hc;subst hc;exact hle y hy)
  rw [hd]at this
  rw [Array.toList_push]
  simpa using this
 have pA:∀{out:Array Keyed} {ia ib:Nat} {p:Keyed},ML r a.toList b.toList out.toList ia ib->a.toList.drop ia=p::a.toList.drop (ia+1)->(∀y∈b.toList.drop ib,r p≤r y)->ML r a.toList b.toList (out.push p).toList (ia+1) ib:=fun {out ia ib p} hm hd hle=>by
  have:=hm.pushA (k:=1) (fun c hc y hy=>by rw [hd]at hc;simp at hc;subst hc;exact hle y hy)
  rw [hd]at this
  rw [Array.toList_push]
  simpa using this
 by_cases QC:1=b.size
 ·rw [if_pos (by simpa using QC)]
  exact wpS_pure (h _ _ (Mj lO (by lia)) (Gl.refl hB))
 rw [if_neg (by simpa using QC)]
 by_cases Xe:0+1=a.size
 ·rw [if_pos (by simpa using Xe)]
  exact wpS_pure (h _ _ (Nh lO Xe) (Gl.refl hB))
 rw [if_neg (by simpa using Xe)]
 refine wpS_bind (wpS_get ?_)
 refine wpS_bind (wpS_mono (wpS_forRange (I:=fun x c AO=>∃out ia ib mg,c=(none,out,ia,ib,mg)/\Gl a₀ k0 st AO/\ML r a.toList b.toList out.toList ia ib/\ia+1<a.size/\ib<b.size/\x+1≤ia+ib)
  (Q:=fun c AO=>∃res rest,c=(some res,rest)/\Gl a₀ k0 st AO/\Mg r a.toList b.toList res.toList) ?_ ?_ ⟨_,_,_,_,rfl,Gl.refl hB,lO,by lia,by lia,by lia⟩) ?_)
 rotate_left
 ·rintro c AO ⟨out,ia,ib,mg,rfl,hG,hM,g1,g2,g3⟩
  lia
 ·rintro c AO ⟨res,rest,rfl,hG,hM⟩
  exact wpS_pure (h res AO hM hG)
 rintro x c BS _ _ ⟨out,ia,ib,mg,rfl,hG,hM,g1,g2,g3⟩
 dsimp only
 refine wpS_bind (wpS_mono (wpS_forRange (I:=fun y c AO=>∃Fj Se Rb ac bc,c=(none,Fj,Se,Rb,ac,bc)/\Gl a₀ k0 st AO/\ML r a.toList b.toList Fj.toList Se Rb/\Se+1<a.size/\Rb<b.size/\ia+ib+y≤Se+Rb)
  (Q:=fun c AO=>(∃Fj Se Rb ac bc,c=(none,Fj,Se,Rb,ac,bc)/\Gl a₀ k0 st AO/\ML r a.toList b.toList Fj.toList Se Rb/\Se+1<a.size/\Rb<b.size/\ia+ib+1≤Se+Rb)\/∃res rest,c=(some res,rest)/\Gl a₀ k0 st AO/\Mg r a.toList b.toList res.toList) ?_ ?_ ⟨_,_,_,_,_,rfl,hG,hM,g1,g2,by lia⟩) ?_)
 ·rintro y c DC _ _ ⟨Fj,Se,Rb,ac,bc,rfl,IJ,Mw,q1,q2,q3⟩
  obtain ⟨u,C9,aY,P2,So⟩:=IU (a:=b) (i:=Rb) q2
  obtain ⟨v,Vv,Zc,bL,Tb⟩:=IU (a:=a) (i:=Se) (by lia)
  dsimp only
  refine wpS_bind (Ad C9 (wpS_bind (Ad Vv (wpS_bind (K8 hc IJ.base (hb u P2) (ha v bL) ?_)))))
  dsimp only
  have Va:=GB Mw.sa
  have Vb:=GB Mw.sb
  rw [Tb]at Va
  rw [So]at Vb
  by_cases A4:r u<r v
  ·rw [decide_eq_true A4,if_pos rfl]
   refine wpS_bind (Ad C9 ?_)
   have Fm:=pB Mw So (fun z hz=>by
    rw [Tb]at hz
    rcases List.mem_cons.mp hz with rfl|hz
    ·lia
    ·exact Nat.le_trans (Nat.le_of_lt A4) ((List.pairwise_cons.mp Va).1 z hz))
   try dsimp only
   by_cases e1:Rb+1=b.size
   ·rw [if_pos (by simpa using e1)]
    exact wpS_pure (.inr ⟨_,_,rfl,IJ,Mj Fm (by lia)⟩)
   ·rw [if_neg (by simpa using e1)]
    by_cases e2:bc+1≥mg
    ·rw [if_pos e2]
     exact wpS_pure (.inl ⟨_,_,_,_,_,rfl,IJ,Fm,q1,by lia,by lia⟩)
    ·rw [if_neg e2]
     exact wpS_pure ⟨_,_,_,_,_,rfl,IJ,Fm,q1,by lia,by lia⟩
  ·rw [decide_eq_false A4,if_neg (by decide)]
   refine wpS_bind (Ad Vv ?_)
   have Fm:=pA Mw Tb (fun z hz=>by
    rw [So]at hz
    rcases List.mem_cons.mp hz with rfl|hz
    ·lia
    ·have:=(List.pairwise_cons.mp Vb).1 z hz
     unfold le at this
     lia)
   try dsimp only
   by_cases e1:Se+1+1=a.size
   ·rw [if_pos (by simpa using e1)]
    exact wpS_pure (.inr ⟨_,_,rfl,IJ,Nh Fm e1⟩)
   ·rw [if_neg (by simpa using e1)]
    by_cases e2:ac+1≥mg
    ·rw [if_pos e2]
     exact wpS_pure (.inl ⟨_,_,_,_,_,rfl,IJ,Fm,by lia,q2,by lia⟩)
    ·rw [if_neg e2]
     exact wpS_pure ⟨_,_,_,_,_,rfl,IJ,Fm,by lia,q2,by lia⟩
 ·rintro c AO ⟨Fj,Se,Rb,ac,bc,rfl,IJ,Mw,q1,q2,q3⟩
  lia
 rintro c DC (⟨Fj,Se,Rb,ac,bc,rfl,IJ,Mw,q1,q2,q3⟩|⟨res,rest,rfl,IJ,Mw⟩)
 rotate_left
 ·dsimp only
  exact wpS_pure ⟨_,_,rfl,IJ,Mw⟩
 dsimp only
 refine wpS_bind (wpS_lift (wpAny_rule ⟨rfl,?_⟩))
 refine wpS_bind (wpS_mono (wpS_forRange (I:=fun y c AO=>∃Cf GP FJ mg ac bc,c=(none,Cf,GP,FJ,mg,ac,bc)/\Gl a₀ k0 st AO/\ML r a.toList b.toList Cf.toList GP FJ/\GP+1<a.size/\FJ<b.size/\ia+ib+1≤GP+FJ)
  (Q:=fun c AO=>(∃Cf GP FJ mg ac bc,c=(none,Cf,GP,FJ,mg,ac,bc)/\Gl a₀ k0 st AO/\ML r a.toList b.toList Cf.toList GP FJ/\GP+1<a.size/\FJ<b.size/\ia+ib+1≤GP+FJ)\/∃res rest,c=(some res,rest)/\Gl a₀ k0 st AO/\Mg r a.toList b.toList res.toList) ?_ ?_ ⟨_,_,_,_,_,_,rfl,IJ,Mw,q1,q2,q3⟩) ?_)
 ·rintro y c GN _ _ ⟨Cf,GP,FJ,U6,eF,dj,rfl,Gz,Fm,w1,w2,w3⟩
  obtain ⟨u,C9,aY,P2,So⟩:=IU (a:=b) (i:=FJ) w2
  dsimp only
  have Mm:∀g,Gl a₀ k0 st (SortSt.mk' (kindOf GN) (arrOf GN) (pendingOf GN) g (failedOf GN)):=fun g=>⟨⟨Gz.base.perm,Gz.base.kind,Gz.base.failed⟩,Gz.arr,Gz.pend⟩
  apply Io
  ·intro key
   by_cases Q5:U6 > 1
   ·rw [if_pos Q5];clear Q5;generalize U6-1=g;revert g;exact key.h
   ·rw [if_neg Q5];clear Q5;generalize U6=g;revert g;exact key.h
  intro g
  apply Io
  intro key
  refine wpS_bind (wpS_modify ?_)
  refine wpS_bind (Ad C9 (wpS_bind (FO (base:=GP) (n:=a.size-GP) (hint:=0) hc (Mm _).base (hb u P2) ha (by lia) (by lia) (by rw [List.take_of_length_le (by simp)];exact GB Fm.sa) fun k hk Mx Dr=>?_)))
  dsimp only
  have Ue:(a.toList.drop GP).take (a.size-GP)=a.toList.drop GP:=List.take_of_length_le (by simp)
  rw [Ue,List.drop_drop]at Dr
  have Vb:=GB Fm.sb
  rw [So]at Vb
  have Pt:=Fm.pushA (k:=k) fun c hc z hz=>by
   have e1:=Mx c hc
   rw [So]at hz
   rcases List.mem_cons.mp hz with ez|hz
   ·rw [ez];exact e1
   ·exact Nat.le_trans e1 ((List.pairwise_cons.mp Vb).1 z hz)
  have eo:(Cf++a.extract GP (GP+k)).toList=Cf.toList++(a.toList.drop GP).take k:=by rw [Array.toList_append,Es]
  rw [<-eo]at Pt
  ·by_cases Tv:k > 0
   ·rw [if_pos Tv]
    by_cases e1:GP+k+1=a.size
    ·rw [if_pos (by simpa using e1)]
     exact wpS_pure (.inr ⟨_,_,rfl,Mm _,Nh Pt e1⟩)
    rw [if_neg (by simpa using e1)]
    by_cases e2:GP+k=a.size
    ·rw [if_pos (by simpa using e2)]
     exact wpS_pure (.inr ⟨_,_,rfl,Mm _,af Pt (by lia)⟩)
    rw [if_neg (by simpa using e2)]
    have Xu:GP+k+1<a.size/\ia+ib+1≤GP+k+FJ:=by lia
    revert Pt Xu Dr
    generalize Cf++a.extract GP (GP+k)=D2
    generalize GP+k=ZQ
    generalize k=YD
    revert D2 ZQ YD
    exact key.h
   ·rw [if_neg Tv]
    have UY:k=0:=by lia
    have Xu:GP+1<a.size/\ia+ib+1≤GP+FJ:=by lia
    have qA:Cf++a.extract GP (GP+0)=Cf:=Array.toList_inj.mp (by rw [Array.toList_append,Es];simp)
    rw [UY,qA,Nat.add_zero]at Pt
    rw [UY,Nat.add_zero]at Dr
    revert Pt Xu Dr
    generalize Cf=D2
    generalize GP=ZQ
    generalize k=YD
    revert D2 ZQ YD
    exact key.h
  intro D2 ZQ YD Dr Pt Xu
  refine wpS_bind (Ad C9 ?_)
  have W7:=pB Pt So (fun z hz=>Nat.le_of_lt (Dr z hz))
  by_cases e3:FJ+1=b.size
  ·rw [if_pos (by simpa using e3)]
   exact wpS_pure (.inr ⟨_,_,rfl,Mm _,Mj W7 (by lia)⟩)
  rw [if_neg (by simpa using e3)]
  obtain ⟨v,Vv,Zc,bL,Tb⟩:=IU (a:=a) (i:=ZQ) (by lia)
  apply Io
  intro key
  refine wpS_bind (Ad Vv (wpS_bind (Ey (base:=FJ+1) (n:=b.size-(FJ+1)) (hint:=0) hc (Mm _).base (ha v bL) hb (by lia) (by lia) (by rw [List.take_of_length_le (by simp)];exact GB W7.sb) fun k' Dp Oq NV=>?_)))
  dsimp only
  have nr:(b.toList.drop (FJ+1)).take (b.size-(FJ+1))=b.toList.drop (FJ+1):=List.take_of_length_le (by simp)
  rw [nr,List.drop_drop]at NV
  have Va:=GB W7.sa
  rw [Tb]at Va
  have Pq:=W7.pushB (k:=k') fun c hc z hz=>by
   have e1:=Oq c hc
   rw [Tb]at hz
   rcases List.mem_cons.mp hz with ez|hz
   ·rw [ez];exact Nat.le_of_lt e1
   ·exact Nat.le_trans (Nat.le_of_lt e1) ((List.pairwise_cons.mp Va).1 z hz)
  have mf:(D2.push u++b.extract (FJ+1) (FJ+1+k')).toList=(D2.push u).toList++(b.toList.drop (FJ+1)).take k':=by rw [Array.toList_append,Es]
  rw [<-mf]at Pq
  ·by_cases hk0':k' > 0
   ·rw [if_pos hk0']
    by_cases e4:FJ+1+k'=b.size
    ·rw [if_pos (by simpa using e4)]
     exact wpS_pure (.inr ⟨_,_,rfl,Mm _,Mj Pq (by lia)⟩)
    rw [if_neg (by simpa using e4)]
    have VU:FJ+1+k'<b.size/\ia+ib+1≤ZQ+(FJ+1+k'):=by lia
    revert Pq VU NV
    generalize D2.push u++b.extract (FJ+1) (FJ+1+k')=M3
    generalize FJ+1+k'=gh
    generalize k'=XW
    revert M3 gh XW
    exact key.h
   ·rw [if_neg hk0']
    have UY:k'=0:=by lia
    have VU:FJ+1<b.size/\ia+ib+1≤ZQ+(FJ+1):=by lia
    have bB:D2.push u++b.extract (FJ+1) (FJ+1+0)=D2.push u:=Array.toList_inj.mp (by rw [Array.toList_append,Es];simp)
    rw [UY,bB,Nat.add_zero]at Pq
    rw [UY,Nat.add_zero]at NV
    revert Pq VU NV
    generalize D2.push u=M3
    generalize FJ+1=gh
    generalize k'=XW
    revert M3 gh XW
    exact key.h
  intro M3 gh XW NV Pq VU
  refine wpS_bind (Ad Vv ?_)
  have Zx:=pA Pq Tb (fun z hz=>NV z hz)
  by_cases e5:ZQ+1+1=a.size
  ·rw [if_pos (by simpa using e5)]
   exact wpS_pure (.inr ⟨_,_,rfl,Mm _,Nh Zx e5⟩)
  rw [if_neg (by simpa using e5)]
  split
  ·exact wpS_pure (.inl ⟨_,_,_,_,_,_,rfl,Mm _,Zx,by lia,VU.1,by lia⟩)
  ·exact wpS_pure ⟨_,_,_,_,_,_,rfl,Mm _,Zx,by lia,VU.1,by lia⟩
 ·rintro c AO ⟨Cf,GP,FJ,U6,eF,dj,rfl,Gz,Fm,w1,w2,w3⟩
  exact .inl ⟨_,_,_,_,_,_,rfl,Gz,Fm,w1,w2,w3⟩
 ·rintro c GN (⟨Cf,GP,FJ,U6,eF,dj,rfl,Gz,Fm,w1,w2,w3⟩|⟨res,rest,rfl,Gz,Fm⟩)
  ·dsimp only
   refine wpS_bind (wpS_modify (wpS_pure ⟨_,_,_,_,rfl,⟨⟨Gz.base.perm,Gz.base.kind,Gz.base.failed⟩,Gz.arr,Gz.pend⟩,Fm,w1,w2,by lia⟩))
  ·dsimp only
   exact wpS_pure ⟨_,_,rfl,Gz,Fm⟩
end
section
variable {prog:Program}{w:World}{A:Around}{E:Value->Shared->Prop}{s:Shared}{a₀:Array Keyed}{r:Keyed->Nat}{k0:SortKind}
structure MH (r:Keyed->Nat) (la lb O:List Keyed) (na nb:Nat):Prop where
 perm:O.Perm (la.drop na++lb.drop nb)
 sa:Srt r (la.take na++O)
 sb:Srt r (lb.take nb++O)
theorem Md {X Y C O:List Keyed} (h1:Srt r (Y++O)) (h2:Srt r ((X++C)++O)) (h3:∀y∈Y,∀c∈C,r y≤r c):Srt r (Y++(C++O))/\Srt r (X++(C++O)):=by
 rw [List.append_assoc]at h2
 refine ⟨?_,h2⟩
 obtain ⟨a1,a2,a3⟩:=List.pairwise_append.mp h1
 obtain ⟨b1,b2,b3⟩:=List.pairwise_append.mp h2
 refine List.pairwise_append.mpr ⟨a1,b2,fun x hx y hy=>?_⟩
 rcases List.mem_append.mp hy with hy|hy
 ·exact h3 x hx y hy
 ·exact a3 x hx y hy
theorem EV (l:List Keyed) {k n:Nat} (h:k≤n):l.take k++(l.take n).drop k=l.take n:=by
 have:=List.take_append_drop k (l.take n)
 rwa [List.take_take,Nat.min_eq_left h]at this
theorem K0 (l:List Keyed) {k n:Nat} (h:k≤n):(l.take n).drop k++l.drop n=l.drop k:=by
 rw [List.drop_take]
 have e:l.drop n=(l.drop k).drop (n-k):=by rw [List.drop_drop];congr 1;lia
 rw [e,List.take_append_drop]
theorem MH.pushA {la lb O:List Keyed} {na nb k:Nat} (h:MH r la lb O na nb) (hk:k≤na) (hle:∀y∈lb.take nb,∀c∈(la.take na).drop k,r y≤r c):MH r la lb ((la.take na).drop k++O) k nb:=by
 obtain ⟨p1,p2⟩:=Md (X:=la.take k) (C:=(la.take na).drop k) h.sb (by rw [EV la hk];exact h.sa) hle
 refine ⟨?_,p2,p1⟩
 rw [<-K0 la hk,List.append_assoc]
 exact h.perm.append_left _
theorem MH.pushB {la lb O:List Keyed} {na nb k:Nat} (h:MH r la lb O na nb) (hk:k≤nb) (hle:∀y∈la.take na,∀c∈(lb.take nb).drop k,r y≤r c):MH r la lb ((lb.take nb).drop k++O) na k:=by
 obtain ⟨p1,p2⟩:=Md (X:=lb.take k) (C:=(lb.take nb).drop k) h.sa (by rw [EV lb hk];exact h.sb) hle
 refine ⟨?_,p1,p2⟩
 rw [<-K0 lb hk]
 refine (h.perm.append_left _).trans ?_
 rw [<-List.append_assoc,<-List.append_assoc]
 exact List.perm_append_comm.append_right _
theorem MH.doneA {la lb O:List Keyed} {nb:Nat} (h:MH r la lb O 0 nb):Mg r la lb (la.take 0++lb.take nb++O):=by
 rw [List.take_zero,List.nil_append]
 refine ⟨?_,h.sb⟩
 refine (h.perm.append_left _).trans ?_
 rw [List.drop_zero,<-List.append_assoc]
 refine (List.perm_append_comm.append_right _).trans ?_
 rw [List.append_assoc,List.take_append_drop]
theorem MH.doneB {la lb O:List Keyed} {na:Nat} (h:MH r la lb O na 0):Mg r la lb (la.take na++lb.take 0++O):=by
 rw [List.take_zero,List.append_nil]
 refine ⟨?_,h.sa⟩
 refine (h.perm.append_left _).trans ?_
 rw [List.drop_zero,<-List.append_assoc,List.take_append_drop]
theorem MH.firstB {la lb O:List Keyed} {na:Nat} (h:MH r la lb O na 1) (hf:∀y∈lb.take 1,∀x∈la,r y≤r x):Mg r la lb (lb.take 1++la.take na++O):=by
 constructor
 ·rw [List.append_assoc]
  refine ((h.perm.append_left _).append_left _).trans ?_
  rw [<-List.append_assoc (la.take na),List.take_append_drop,<-List.append_assoc]
  refine (List.perm_append_comm.append_right _).trans ?_
  rw [List.append_assoc,List.take_append_drop]
 ·rw [List.append_assoc]
  obtain ⟨b1,b2,b3⟩:=List.pairwise_append.mp h.sb
  refine List.pairwise_append.mpr ⟨b1,h.sa,fun x hx y hy=>?_⟩
  rcases List.mem_append.mp hy with hy|hy
  ·exact hf x hx y (List.mem_of_mem_take hy)
  ·exact b3 x hx y hy
theorem EH (a:Array Keyed) (n:Nat):(a.extract 0 n).toList=a.toList.take n:=by simp
theorem DJ (a:Array Keyed) (k n:Nat):(a.extract k n).toList=(a.toList.take n).drop k:=by simp [List.drop_take]
theorem Fg {a:Array Keyed} {n:Nat} (h:n<a.size):∃p,a[n]?=some p/\p∈a.toList/\(a.toList.take (n+1)).drop n=[p]/\a.toList.take (n+1)=a.toList.take n++[p]:=by
 have hl:n<a.toList.length:=by rw [Array.length_toList];exact h
 refine ⟨a.toList[n],?_,List.getElem_mem hl,?_,?_⟩
 ·rw [<-Array.getElem?_toList];exact List.getElem?_eq_getElem hl
 ·rw [List.drop_take,show n+1-n=1 by lia,List.drop_eq_getElem_cons hl];rfl
 ·rw [List.take_add_one,List.getElem?_eq_getElem hl];rfl
theorem OZ (hc:CmpOk prog w A s a₀ r k0) {st:SortSt} (hB:SB a₀ k0 st) {a b:Array Keyed} (ha:∀p∈a.toList,p∈a₀.toList) (hb:∀p∈b.toList,p∈a₀.toList) (sa:Srt r a.toList) (sb:Srt r b.toList) (za:1≤a.size) (zb:1≤b.size)
  (hf:∀y∈b.toList.take 1,∀x∈a.toList,r y≤r x) (hl:∀x∈a.toList.drop (a.size-1),∀y∈b.toList,r y≤r x) {Q:Array Keyed->SortSt->Prop}
  (h:∀out AO,Mg r a.toList b.toList out.toList->Gl a₀ k0 st AO->Q out AO):wpS (model prog w) A E s (Ny a b) Q st:=by
 unfold Ny
 refine wpS_bind (wpS_lift (wpAny_rule ⟨rfl,?_⟩))
 have eZ:a.toList.length=a.size:=Array.length_toList
 have yb:b.toList.length=b.size:=Array.length_toList
 obtain ⟨x0,iQ,RH,UU,fR⟩:=Fg (a:=a) (n:=a.size-1) (by lia)
 rw [show a.size-1+1=a.size by lia,List.take_of_length_le (by lia)]at UU fR
 have lj:MH r a.toList b.toList (#[x0]:Array Keyed).toList.reverse (a.size-1) b.size:=by
  refine ⟨?_,?_,?_⟩
  ·rw [UU,List.drop_eq_nil_of_le (by lia)];simp
  ·show Srt r (a.toList.take (a.size-1)++[x0])
   rw [<-fR];exact sa
  ·show Srt r (b.toList.take b.size++[x0])
   rw [List.take_of_length_le (by lia)]
   refine List.pairwise_append.mpr ⟨sb,List.pairwise_singleton _ _,fun u hu v hv=>?_⟩
   rw [List.mem_singleton.mp hv]
   exact hl x0 (by rw [UU];simp) u hu
 have Mj:∀{out:Array Keyed} {na nb:Nat},MH r a.toList b.toList out.toList.reverse na nb->na=0->Mg r a.toList b.toList (a.extract 0 na++b.extract 0 nb++out.reverse).toList:=fun hm e=>by
  subst e
  rw [Array.toList_append,Array.toList_append,EH,EH,Array.toList_reverse];exact hm.doneA
 have af:∀{out:Array Keyed} {na nb:Nat},MH r a.toList b.toList out.toList.reverse na nb->nb=0->Mg r a.toList b.toList (a.extract 0 na++b.extract 0 nb++out.reverse).toList:=fun hm e=>by
  subst e
  rw [Array.toList_append,Array.toList_append,EH,EH,Array.toList_reverse];exact hm.doneB
 have Nh:∀{out:Array Keyed} {na nb:Nat},MH r a.toList b.toList out.toList.reverse na nb->nb=1->Mg r a.toList b.toList (b.extract 0 nb++a.extract 0 na++out.reverse).toList:=fun hm e=>by
  subst e
  rw [Array.toList_append,Array.toList_append,EH,EH,Array.toList_reverse];exact hm.firstB hf
 have pA:∀{out:Array Keyed} {na nb:Nat} {p:Keyed},MH r a.toList b.toList out.toList.reverse (na+1) nb->(a.toList.take (na+1)).drop na=[p]->(∀y∈b.toList.take nb,r y≤r p)->MH r a.toList b.toList (out.push p).toList.reverse na nb:=fun {out na nb p} hm hd hle=>by
  have:=hm.pushA (k:=na) (by lia) (fun y hy c hc=>by rw [hd]at hc;rw [List.mem_singleton.mp hc];exact hle y hy)
  rw [hd]at this
  rw [Array.toList_push,List.reverse_append]
  exact this
 have pB:∀{out:Array Keyed} {na nb:Nat} {p:Keyed},MH r a.toList b.toList out.toList.reverse na (nb+1)->(b.toList.take (nb+1)).drop nb=[p]->(∀y∈a.toList.take na,r y≤r p)->MH r a.toList b.toList (out.push p).toList.reverse na nb:=fun {out na nb p} hm hd hle=>by
  have:=hm.pushB (k:=nb) (by lia) (fun y hy c hc=>by rw [hd]at hc;rw [List.mem_singleton.mp hc];exact hle y hy)
  rw [hd]at this
  rw [Array.toList_push,List.reverse_append]
  exact this
 refine wpS_bind (Ad iQ ?_)
 dsimp only
 by_cases Xe:a.size-1=0
 ·rw [if_pos (by simpa using Xe)]
  exact wpS_pure (h _ _ (Mj lj Xe) (Gl.refl hB))
 rw [if_neg (by simpa using Xe)]
 by_cases QC:b.size=1
 ·rw [if_pos (by simpa using QC)]
  exact wpS_pure (h _ _ (Nh lj QC) (Gl.refl hB))
 rw [if_neg (by simpa using QC)]
 refine wpS_bind (wpS_get ?_)
 refine wpS_bind (wpS_mono (wpS_forRange (I:=fun x c AO=>∃na nb out mg,c=(none,na,nb,out,mg)/\Gl a₀ k0 st AO/\MH r a.toList b.toList out.toList.reverse na nb/\1≤na/\2≤nb/\na<a.size/\nb≤b.size/\na+nb+x+1≤a.size+b.size)
  (Q:=fun c AO=>∃res rest,c=(some res,rest)/\Gl a₀ k0 st AO/\Mg r a.toList b.toList res.toList) ?_ ?_ ⟨_,_,_,_,rfl,Gl.refl hB,lj,by lia,by lia,by lia,by lia,by lia⟩) ?_)
 rotate_left
 ·rintro c AO ⟨na,nb,out,mg,rfl,hG,hM,g1,g2,g3,g4,g5⟩
  lia
 ·rintro c AO ⟨res,rest,rfl,hG,hM⟩
  exact wpS_pure (h res AO hM hG)
 rintro x c BS _ _ ⟨na,nb,out,mg,rfl,hG,hM,g1,g2,g3,g4,g5⟩
 dsimp only
 refine wpS_bind (wpS_mono (wpS_forRange (I:=fun y c AO=>∃Pu Pr Fj ac bc,c=(none,Pu,Pr,Fj,ac,bc)/\Gl a₀ k0 st AO/\MH r a.toList b.toList Fj.toList.reverse Pu Pr/\1≤Pu/\2≤Pr/\Pu<a.size/\Pr≤b.size/\Pu+Pr+y≤na+nb)
  (Q:=fun c AO=>(∃Pu Pr Fj ac bc,c=(none,Pu,Pr,Fj,ac,bc)/\Gl a₀ k0 st AO/\MH r a.toList b.toList Fj.toList.reverse Pu Pr/\1≤Pu/\2≤Pr/\Pu<a.size/\Pr≤b.size/\Pu+Pr+1≤na+nb)\/∃res rest,c=(some res,rest)/\Gl a₀ k0 st AO/\Mg r a.toList b.toList res.toList) ?_ ?_ ⟨_,_,_,_,_,rfl,hG,hM,g1,g2,g3,g4,by lia⟩) ?_)
 ·rintro y c DC _ _ ⟨Pu,Pr,Fj,ac,bc,rfl,IJ,Mw,q1,q2,q3,q4,q5⟩
  obtain ⟨n,rfl⟩:∃n,Pu=n+1:=⟨Pu-1,by lia⟩
  obtain ⟨m,rfl⟩:∃m,Pr=m+1:=⟨Pr-1,by lia⟩
  obtain ⟨u,C9,aY,P2,So⟩:=Fg (a:=b) (n:=m) (by lia)
  obtain ⟨v,Vv,Zc,bL,Tb⟩:=Fg (a:=a) (n:=n) (by lia)
  dsimp only
  simp only [Nat.add_sub_cancel]
  refine wpS_bind (Ad C9 (wpS_bind (Ad Vv (wpS_bind (K8 hc IJ.base (hb u aY) (ha v Zc) ?_)))))
  dsimp only
  have Va:=(List.pairwise_append.mp Mw.sa).1
  have Vb:=(List.pairwise_append.mp Mw.sb).1
  rw [Tb]at Va
  rw [So]at Vb
  by_cases A4:r u<r v
  ·rw [decide_eq_true A4,if_pos rfl]
   refine wpS_bind (Ad Vv ?_)
   have Fm:=pA Mw bL (fun z hz=>by
    rw [So]at hz
    rcases List.mem_append.mp hz with hz|hz
    ·exact Nat.le_trans ((List.pairwise_append.mp Vb).2.2 z hz u (by simp)) (Nat.le_of_lt A4)
    ·rw [List.mem_singleton.mp hz];lia)
   by_cases e1:n=0
   ·rw [if_pos (by simpa using e1)]
    exact wpS_pure (.inr ⟨_,_,rfl,IJ,Mj Fm e1⟩)
   ·rw [if_neg (by simpa using e1)]
    by_cases e2:ac+1≥mg
    ·rw [if_pos e2]
     exact wpS_pure (.inl ⟨_,_,_,_,_,rfl,IJ,Fm,by lia,by lia,by lia,by lia,by lia⟩)
    ·rw [if_neg e2]
     exact wpS_pure ⟨_,_,_,_,_,rfl,IJ,Fm,by lia,by lia,by lia,by lia,by lia⟩
  ·rw [decide_eq_false A4,if_neg (by decide)]
   refine wpS_bind (Ad C9 ?_)
   have Fm:=pB Mw P2 (fun z hz=>by
    rw [Tb]at hz
    rcases List.mem_append.mp hz with hz|hz
    ·have:=(List.pairwise_append.mp Va).2.2 z hz v (by simp)
     unfold le at this
     lia
    ·rw [List.mem_singleton.mp hz];lia)
   by_cases e1:m=1
   ·rw [if_pos (by simpa using e1)]
    exact wpS_pure (.inr ⟨_,_,rfl,IJ,Nh Fm e1⟩)
   ·rw [if_neg (by simpa using e1)]
    by_cases e2:bc+1≥mg
    ·rw [if_pos e2]
     exact wpS_pure (.inl ⟨_,_,_,_,_,rfl,IJ,Fm,by lia,by lia,by lia,by lia,by lia⟩)
    ·rw [if_neg e2]
     exact wpS_pure ⟨_,_,_,_,_,rfl,IJ,Fm,by lia,by lia,by lia,by lia,by lia⟩
 ·rintro c AO ⟨Pu,Pr,Fj,ac,bc,rfl,IJ,Mw,q1,q2,q3,q4,q5⟩
  lia
 rintro c DC (⟨Pu,Pr,Fj,ac,bc,rfl,IJ,Mw,q1,q2,q3,q4,q5⟩|⟨res,rest,rfl,IJ,Mw⟩)
 rotate_left
 ·dsimp only
  exact wpS_pure ⟨_,_,rfl,IJ,Mw⟩
 dsimp only
 refine wpS_bind (wpS_lift (wpAny_rule ⟨rfl,?_⟩))
 refine wpS_bind (wpS_mono (wpS_forRange (I:=fun y c AO=>∃HN Pn Cf mg ac bc,c=(none,HN,Pn,Cf,mg,ac,bc)/\Gl a₀ k0 st AO/\MH r a.toList b.toList Cf.toList.reverse HN Pn/\1≤HN/\2≤Pn/\HN<a.size/\Pn≤b.size/\HN+Pn+1≤na+nb)
  (Q:=fun c AO=>(∃HN Pn Cf mg ac bc,c=(none,HN,Pn,Cf,mg,ac,bc)/\Gl a₀ k0 st AO/\MH r a.toList b.toList Cf.toList.reverse HN Pn/\1≤HN/\2≤Pn/\HN<a.size/\Pn≤b.size/\HN+Pn+1≤na+nb)\/∃res rest,c=(some res,rest)/\Gl a₀ k0 st AO/\Mg r a.toList b.toList res.toList) ?_ ?_ ⟨_,_,_,_,_,_,rfl,IJ,Mw,q1,q2,q3,q4,q5⟩) ?_)
 ·rintro y c GN _ _ ⟨HN,Pn,Cf,U6,eF,dj,rfl,Gz,Fm,w1,w2,w3,w4,w5⟩
  obtain ⟨m,rfl⟩:∃m,Pn=m+1:=⟨Pn-1,by lia⟩
  obtain ⟨u,C9,aY,P2,So⟩:=Fg (a:=b) (n:=m) (by lia)
  have Mm:∀g,Gl a₀ k0 st (SortSt.mk' (kindOf GN) (arrOf GN) (pendingOf GN) g (failedOf GN)):=fun g=>⟨⟨Gz.base.perm,Gz.base.kind,Gz.base.failed⟩,Gz.arr,Gz.pend⟩
  dsimp only
  simp only [Nat.add_sub_cancel]
  apply Io
  ·intro key
   by_cases Q5:U6 > 1
   ·rw [if_pos Q5];clear Q5;generalize U6-1=g;revert g;exact key.h
   ·rw [if_neg Q5];clear Q5;generalize U6=g;revert g;exact key.h
  intro g
  apply Io
  intro key
  refine wpS_bind (wpS_modify ?_)
  refine wpS_bind (Ad C9 (wpS_bind (FO (base:=0) (n:=HN) (hint:=HN-1) hc (Mm _).base (hb u aY) ha (by lia) (by lia) (by rw [List.drop_zero];exact (List.pairwise_append.mp Fm.sa).1) fun k hk Mx Dr=>?_)))
  dsimp only
  rw [List.drop_zero]at Mx Dr
  have Vb:=(List.pairwise_append.mp Fm.sb).1
  rw [So]at Vb
  have Pt:=Fm.pushA (k:=k) hk fun z hz c hc=>by
   have e1:=Dr c hc
   rw [So]at hz
   rcases List.mem_append.mp hz with hz|hz
   ·exact Nat.le_trans ((List.pairwise_append.mp Vb).2.2 z hz u (by simp)) (Nat.le_of_lt e1)
   ·rw [List.mem_singleton.mp hz];exact Nat.le_of_lt e1
  have eo:(Cf++(a.extract k HN).reverse).toList.reverse=(a.toList.take HN).drop k++Cf.toList.reverse:=by
   rw [Array.toList_append,List.reverse_append,Array.toList_reverse,List.reverse_reverse,DJ]
  rw [<-eo]at Pt
  ·by_cases Tv:HN-k > 0
   ·rw [if_pos Tv]
    by_cases e1:k=0
    ·rw [if_pos (by simpa using e1)]
     exact wpS_pure (.inr ⟨_,_,rfl,Mm _,Mj Pt e1⟩)
    rw [if_neg (by simpa using e1)]
    have Xu:1≤k/\k<a.size/\k+(m+1)+1≤na+nb:=by lia
    generalize HN-k=YD
    revert Pt Xu Mx
    generalize Cf++(a.extract k HN).reverse=D2
    generalize k=cV
    revert D2 cV YD
    exact key.h
   ·rw [if_neg Tv]
    have UY:k=HN:=by lia
    have Xu:1≤HN/\HN<a.size/\HN+(m+1)+1≤na+nb:=by lia
    have qA:Cf++(a.extract HN HN).reverse=Cf:=Array.toList_inj.mp (by rw [Array.toList_append,Array.toList_reverse,DJ];simp)
    rw [UY,qA]at Pt
    rw [UY]at Mx
    generalize HN-k=YD
    revert Pt Xu Mx
    generalize Cf=D2
    generalize HN=cV
    revert D2 cV YD
    exact key.h
  intro YD D2 cV Mx Pt Xu
  refine wpS_bind (Ad C9 ?_)
  have W7:=pB Pt P2 (fun z hz=>Mx z hz)
  by_cases e3:m=1
  ·rw [if_pos (by simpa using e3)]
   exact wpS_pure (.inr ⟨_,_,rfl,Mm _,Nh W7 e3⟩)
  rw [if_neg (by simpa using e3)]
  obtain ⟨n,rfl⟩:∃n,cV=n+1:=⟨cV-1,by lia⟩
  obtain ⟨v,Vv,Zc,bL,Tb⟩:=Fg (a:=a) (n:=n) (by lia)
  simp only [Nat.add_sub_cancel]
  apply Io
  intro key
  refine wpS_bind (Ad Vv (wpS_bind (Ey (base:=0) (n:=m) (hint:=m-1) hc (Mm _).base (ha v Zc) hb (by lia) (by lia) (by rw [List.drop_zero];exact (List.pairwise_append.mp W7.sb).1) fun k' Dp Oq NV=>?_)))
  dsimp only
  rw [List.drop_zero]at Oq NV
  have Va:=(List.pairwise_append.mp W7.sa).1
  rw [Tb]at Va
  have Pq:=W7.pushB (k:=k') Dp fun z hz c hc=>by
   have e1:=NV c hc
   rw [Tb]at hz
   rcases List.mem_append.mp hz with hz|hz
   ·exact Nat.le_trans ((List.pairwise_append.mp Va).2.2 z hz v (by simp)) e1
   ·rw [List.mem_singleton.mp hz];exact e1
  have mf:(D2.push u++(b.extract k' m).reverse).toList.reverse=(b.toList.take m).drop k'++(D2.push u).toList.reverse:=by
   rw [Array.toList_append,List.reverse_append,Array.toList_reverse,List.reverse_reverse,DJ]
  rw [<-mf]at Pq
  ·by_cases hk0':m-k' > 0
   ·rw [if_pos hk0']
    by_cases e4:k'=1
    ·rw [if_pos (by simpa using e4)]
     exact wpS_pure (.inr ⟨_,_,rfl,Mm _,Nh Pq e4⟩)
    rw [if_neg (by simpa using e4)]
    by_cases e5:k'=0
    ·rw [if_pos (by simpa using e5)]
     exact wpS_pure (.inr ⟨_,_,rfl,Mm _,af Pq e5⟩)
    rw [if_neg (by simpa using e5)]
    have VU:2≤k'/\k'≤b.size/\n+k'+1≤na+nb:=by lia
    generalize m-k'=XW
    revert Pq VU Oq
    generalize D2.push u++(b.extract k' m).reverse=M3
    generalize k'=gr
    revert M3 gr XW
    exact key.h
   ·rw [if_neg hk0']
    have UY:k'=m:=by lia
    have VU:2≤m/\m≤b.size/\n+m+1≤na+nb:=by lia
    have bB:D2.push u++(b.extract m m).reverse=D2.push u:=Array.toList_inj.mp (by rw [Array.toList_append,Array.toList_reverse,DJ];simp)
    rw [UY,bB]at Pq
    rw [UY]at Oq
    generalize m-k'=XW
    revert Pq VU Oq
    generalize D2.push u=M3
    generalize m=gr
    revert M3 gr XW
    exact key.h
  intro XW M3 gr Oq Pq VU
  refine wpS_bind (Ad Vv ?_)
  have Zx:=pA Pq bL (fun z hz=>Nat.le_of_lt (Oq z hz))
  by_cases e6:n=0
  ·rw [if_pos (by simpa using e6)]
   exact wpS_pure (.inr ⟨_,_,rfl,Mm _,Mj Zx e6⟩)
  rw [if_neg (by simpa using e6)]
  split
  ·exact wpS_pure (.inl ⟨_,_,_,_,_,_,rfl,Mm _,Zx,by lia,by lia,by lia,by lia,by lia⟩)
  ·exact wpS_pure ⟨_,_,_,_,_,_,rfl,Mm _,Zx,by lia,by lia,by lia,by lia,by lia⟩
 ·rintro c AO ⟨HN,Pn,Cf,U6,eF,dj,rfl,Gz,Fm,w1,w2,w3,w4,w5⟩
  exact .inl ⟨_,_,_,_,_,_,rfl,Gz,Fm,w1,w2,w3,w4,w5⟩
 ·rintro c GN (⟨HN,Pn,Cf,U6,eF,dj,rfl,Gz,Fm,w1,w2,w3,w4,w5⟩|⟨res,rest,rfl,Gz,Fm⟩)
  ·dsimp only
   refine wpS_bind (wpS_modify (wpS_pure ⟨_,_,_,_,rfl,⟨⟨Gz.base.perm,Gz.base.kind,Gz.base.failed⟩,Gz.arr,Gz.pend⟩,Fm,w1,w2,w3,w4,by lia⟩))
  ·dsimp only
   exact wpS_pure ⟨_,_,rfl,Gz,Fm⟩
end
section
variable {prog:Program}{w:World}{A:Around}{E:Value->Shared->Prop}{s:Shared}{a₀:Array Keyed}{r:Keyed->Nat}{k0:SortKind}
abbrev seg (l:List Keyed) (i n:Nat):List Keyed:=(l.drop i).take n
def Runs (r:Keyed->Nat) (l:List Keyed):Nat->List (Nat×Nat×Nat)->Nat->Prop
 |b,[],lo=>b=lo
 |b,(st,n,_)::rest,lo=>st=b/\1≤n/\Srt r (seg l b n)/\Runs r l (b+n) rest lo
theorem Runs.le {l:List Keyed}:∀{p:List (Nat×Nat×Nat)} {b lo:Nat},Runs r l b p lo->b+p.length≤lo
 |[],_,_,h=>by rw [Runs]at h;subst h;simp
 |(st,n,_)::rest,b,lo,h=>by
  rw [Runs]at h
  have:=Runs.le h.2.2.2
  rw [List.length_cons];lia
theorem Runs.same {l l':List Keyed}:∀{p:List (Nat×Nat×Nat)} {b lo:Nat},Runs r l b p lo->(∀i n,b≤i->i+n≤lo->seg l' i n=seg l i n)->Runs r l' b p lo
 |[],_,_,h,_=>h
 |(st,n,_)::rest,b,lo,h,e=>by
  rw [Runs]at h ⊢
  have:=Runs.le h.2.2.2
  exact ⟨h.1,h.2.1,by rw [e b n (Nat.le_refl _) (by lia)];exact h.2.2.1,Runs.same h.2.2.2 fun i n' h1 h2=>e i n' (by lia) h2⟩
theorem Runs.snoc {l:List Keyed}:∀{p:List (Nat×Nat×Nat)} {b lo n pw:Nat},Runs r l b p lo->1≤n->Srt r (seg l lo n)->Runs r l b (p++[(lo,n,pw)]) (lo+n)
 |[],b,lo,n,pw,h,h1,h2=>by
  rw [Runs]at h
  subst h
  exact ⟨rfl,h1,h2,rfl⟩
 |(st,m,_)::rest,b,lo,n,pw,h,h1,h2=>by
  rw [Runs]at h
  exact ⟨h.1,h.2.1,h.2.2.1,Runs.snoc h.2.2.2 h1 h2⟩
theorem Runs.merge {l l':List Keyed}:∀{pre:List (Nat×Nat×Nat)} {b lo sa na pa sb nb pb:Nat} {post:List (Nat×Nat×Nat)},Runs r l b (pre++(sa,na,pa)::(sb,nb,pb)::post) lo →
  (∀i n,i+n≤sa->seg l' i n=seg l i n)->(∀i n,sa+na+nb≤i->seg l' i n=seg l i n)->Srt r (seg l' sa (na+nb))->Runs r l' b (pre++(sa,na+nb,pa)::post) lo
 |[],b,lo,sa,na,pa,sb,nb,pb,post,h,h1,h2,h3=>by
  rw [List.nil_append,Runs,Runs]at h
  obtain ⟨rfl,g1,g2,rfl,g3,g4,g5⟩:=h
  refine ⟨rfl,by lia,h3,?_⟩
  rw [Nat.add_assoc]at g5
  exact g5.same fun i n q1 q2=>h2 i n (by lia)
 |(st,n,_)::rest,b,lo,sa,na,pa,sb,nb,pb,post,h,h1,h2,h3=>by
  rw [List.cons_append,Runs]at h
  obtain ⟨rfl,g1,g2,g3⟩:=h
  have uQ:st+n≤sa:=by
   have:∀{pre:List (Nat×Nat×Nat)} {b:Nat},Runs r l b (pre++(sa,na,pa)::(sb,nb,pb)::post) lo->b≤sa:=by
    intro pre
    induction pre with
    |nil=>intro b h;rw [List.nil_append,Runs]at h;lia
    |cons x r' ih=>intro b h;obtain ⟨x1,x2,x3⟩:=x;rw [List.cons_append,Runs]at h;have:=ih h.2.2.2;lia
   exact this g3
  refine ⟨rfl,g1,by rw [h1 st n uQ];exact g2,Runs.merge g3 h1 h2 h3⟩
theorem Runs.at {l:List Keyed}:∀{pre:List (Nat×Nat×Nat)} {b lo sa na pa sb nb pb:Nat} {post:List (Nat×Nat×Nat)},Runs r l b (pre++(sa,na,pa)::(sb,nb,pb)::post) lo →
  b≤sa/\sb=sa+na/\1≤na/\1≤nb/\sb+nb≤lo/\Srt r (seg l sa na)/\Srt r (seg l sb nb)
 |[],b,lo,sa,na,pa,sb,nb,pb,post,h=>by
  rw [List.nil_append,Runs,Runs]at h
  obtain ⟨rfl,g1,g2,rfl,g3,g4,g5⟩:=h
  have:=g5.le
  exact ⟨Nat.le_refl _,rfl,g1,g3,by lia,g2,g4⟩
 |(st,n,_)::rest,b,lo,sa,na,pa,sb,nb,pb,post,h=>by
  rw [List.cons_append,Runs]at h
  obtain ⟨rfl,g1,g2,g3⟩:=h
  obtain ⟨q1,q2⟩:=Runs.at g3
  exact ⟨by lia,q2⟩
theorem Of (off:Nat):∀(ms:List Keyed) (j:Nat) (xs:Array Keyed) (k:Nat),off+j+ms.length≤xs.size →
  ((ms.zipIdx j).foldl (fun a (p:Keyed×Nat)=>a.setIfInBounds (off+p.2) p.1) xs)[k]?=if off+j≤k/\k<off+j+ms.length then ms[k-(off+j)]? else xs[k]?
 |[],j,xs,k,_=>by simp;lia
 |m::ms,j,xs,k,h=>by
  rw [List.zipIdx_cons,List.foldl_cons]
  rw [List.length_cons]at h
  rw [Of off ms (j+1) _ k (by rw [Array.size_setIfInBounds];lia)]
  rw [List.length_cons]
  by_cases h1:off+(j+1)≤k/\k<off+(j+1)+ms.length
  ·rw [if_pos h1,if_pos (by lia)]
   obtain ⟨q,hq⟩:∃q,k-(off+j)=q+1:=⟨k-(off+j)-1,by lia⟩
   rw [hq,List.getElem?_cons_succ]
   congr 1
   lia
  ·rw [if_neg h1,Array.getElem?_setIfInBounds]
   by_cases h2:off+j=k
   ·rw [if_pos h2,if_pos (by lia),if_pos (by lia)]
    have:k-(off+j)=0:=by lia
    rw [this];rfl
   ·rw [if_neg h2,if_neg (by lia)]
theorem Sr (off:Nat) (ms:List Keyed) (xs:Array Keyed) (h:off+ms.length≤xs.size):((ms.zipIdx).foldl (fun a (p:Keyed×Nat)=>a.setIfInBounds (off+p.2) p.1) xs).toList=xs.toList.take off++ms++xs.toList.drop (off+ms.length):=by
 have hl:xs.toList.length=xs.size:=Array.length_toList
 refine List.ext_getElem? fun k=>?_
 rw [Array.getElem?_toList,Of off ms 0 xs k (by lia),Nat.add_zero,List.append_assoc]
 by_cases h1:k<off
 ·rw [if_neg (by lia),List.getElem?_append_left (by rw [List.length_take];lia),List.getElem?_take,if_pos h1,Array.getElem?_toList]
 ·rw [List.getElem?_append_right (by rw [List.length_take];lia),List.length_take,show min off xs.toList.length=off by lia]
  by_cases h2:k<off+ms.length
  ·rw [if_pos (by lia),List.getElem?_append_left (by lia)]
  ·rw [if_neg (by lia),List.getElem?_append_right (by lia),List.getElem?_drop,Array.getElem?_toList]
   congr 1
   lia
theorem XY {l M:List Keyed} {i0 j0:Nat} (hi:i0≤l.length) (i n:Nat) (h:i+n≤i0):seg (l.take i0++M++l.drop j0) i n=seg l i n:=by
 unfold seg
 rw [List.append_assoc,List.drop_append_of_le_length (by rw [List.length_take];lia),List.take_append_of_le_length (by rw [List.length_drop,List.length_take];lia),List.drop_take,List.take_take]
 congr 1
 lia
theorem Pa {l M:List Keyed} {i0 j0:Nat} (hi:i0+M.length=j0) (hj:j0≤l.length) (i n:Nat) (h:j0≤i):seg (l.take i0++M++l.drop j0) i n=seg l i n:=by
 unfold seg
 have e:(l.take i0++M).length=j0:=by rw [List.length_append,List.length_take];lia
 rw [List.drop_append,List.drop_eq_nil_of_le (by lia),List.nil_append,e,List.drop_drop]
 congr 2
 lia
theorem XR {l M:List Keyed} {sa k i0 j0 t:Nat} (h0:i0=sa+k) (hi:i0+M.length=j0) (hj:j0+t≤l.length):seg (l.take i0++M++l.drop j0) sa (k+M.length+t)=seg l sa k++M++seg l j0 t:=by
 unfold seg
 subst h0
 rw [List.append_assoc,List.drop_append_of_le_length (by rw [List.length_take];lia),List.drop_take,show sa+k-sa=k by lia]
 have hP:((l.drop sa).take k).length=k:=by rw [List.length_take,List.length_drop];lia
 generalize (l.drop sa).take k=P0 at *
 subst hP
 rw [Nat.add_assoc,List.take_length_add_append,List.take_length_add_append,List.append_assoc]
theorem Xh {xs:Array Keyed} {i n:Nat} {p:Keyed} (h:xs[i]?=some p) (hn:1≤n):∃t,seg xs.toList i n=p::t:=by
 have hp:xs.toList[i]?=some p:=by rw [Array.getElem?_toList];exact h
 obtain ⟨hl,e⟩:=List.getElem?_eq_some_iff.mp hp
 unfold seg
 rw [List.drop_eq_getElem_cons hl,e]
 obtain ⟨m,rfl⟩:∃m,n=m+1:=⟨n-1,by lia⟩
 exact ⟨_,List.take_succ_cons ..⟩
theorem Xv {M:Model} {σ:Type} {x:σ} {Q:PUnit->σ->Prop} {st:σ} (h:Q ⟨⟩ x):wpS M A E s (set x:StateT σ Sem PUnit) Q st:=by
 unfold wpS;rw [StateT.run_set];exact wpAny_pure ⟨rfl,h⟩
theorem Q8 {l M:List Keyed} {sa na nb k t:Nat} {eX fq:Keyed} (sA:Srt r (seg l sa na)) (sB:Srt r (seg l (sa+na) nb)) (hk:k≤na) (ht:t≤nb)
  (h1:∀c∈seg l sa k,r c≤r eX) (h2:∀c∈(seg l sa na).drop k,r c≤r fq) (h3:∀c∈seg l (sa+na) nb,r eX≤r c) (h4:∀c∈(seg l (sa+na) nb).drop t,r fq≤r c)
  (hM:Mg r ((seg l sa na).drop k) (seg l (sa+na) t) M):Srt r (seg l sa k++M++seg l (sa+na+t) (nb-t)):=by
 have eA:seg l sa k++(seg l sa na).drop k=seg l sa na:=by
  unfold seg
  have:=List.take_append_drop k ((l.drop sa).take na)
  rwa [List.take_take,Nat.min_eq_left hk]at this
 have eT:(seg l (sa+na) nb).drop t=seg l (sa+na+t) (nb-t):=by
  unfold seg
  rw [List.drop_take,List.drop_drop]
 have eB:seg l (sa+na) t++(seg l (sa+na) nb).drop t=seg l (sa+na) nb:=by
  unfold seg
  have:=List.take_append_drop t ((l.drop (sa+na)).take nb)
  rwa [List.take_take,Nat.min_eq_left ht]at this
 rw [<-eT]
 rw [<-eA]at sA
 have lM:=h3
 rw [<-eB]at sB lM
 obtain ⟨a1,a2,a3⟩:=List.pairwise_append.mp sA
 obtain ⟨b1,b2,b3⟩:=List.pairwise_append.mp sB
 have mm:∀c∈M,c∈(seg l sa na).drop k\/c∈seg l (sa+na) t:=fun c hc=>List.mem_append.mp (hM.perm.mem_iff.mp hc)
 rw [List.append_assoc]
 refine List.pairwise_append.mpr ⟨a1,List.pairwise_append.mpr ⟨hM.srt,b2,fun x hx y hy=>?_⟩,fun x hx y hy=>?_⟩
 ·rcases mm x hx with hx|hx
  ·exact Nat.le_trans (h2 x hx) (h4 y hy)
  ·exact b3 x hx y hy
 ·have RH:=h1 x hx
  rcases List.mem_append.mp hy with hy|hy
  ·rcases mm y hy with hy|hy
   ·exact a3 x hx y hy
   ·exact Nat.le_trans RH (lM y (List.mem_append_left _ hy))
  ·exact Nat.le_trans RH (lM y (List.mem_append_right _ hy))
theorem Iu (hc:CmpOk prog w A s a₀ r k0) {st:SortSt} (hB:SB a₀ k0 st) {i lo:Nat} {pre post:List (Nat×Nat×Nat)} {sa na pa sb nb pb:Nat} (hp:(pendingOf st).toList=pre++(sa,na,pa)::(sb,nb,pb)::post) (hi:pre.length=i) (uR:lo≤a₀.size)
  (hR:Runs r (arrOf st).toList 0 (pendingOf st).toList lo) {Q:Bool->SortSt->Prop}
  (h:∀AO,SB a₀ k0 AO->(pendingOf AO).toList=pre++(sa,na+nb,pa)::post->Runs r (arrOf AO).toList 0 (pendingOf AO).toList lo->(∀i n,lo≤i->seg (arrOf AO).toList i n=seg (arrOf st).toList i n)->Q true AO):wpS (model prog w) A E s (mergeAt' i) Q st:=by
 have eH:=hR
 rw [hp]at eH
 obtain ⟨_,rfl,z1,z2,z3,sA,sB⟩:=Runs.at eH
 have hsz:=hB.size
 have hl:(arrOf st).toList.length=a₀.size:=by rw [Array.length_toList];exact hsz
 have hpl:(pendingOf st).toList.length=(pendingOf st).size:=Array.length_toList
 have e1:(pendingOf st)[i]?=some (sa,na,pa):=by
  rw [<-Array.getElem?_toList,hp,List.getElem?_append_right (by lia),hi,Nat.sub_self];rfl
 have e2:(pendingOf st)[i+1]?=some (sa+na,nb,pb):=by
  rw [<-Array.getElem?_toList,hp,List.getElem?_append_right (by lia),hi,show i+1-i=1 by lia];rfl
 have OI:(((pendingOf st).setIfInBounds i (sa,na+nb,pa)).eraseIdxIfInBounds (i+1)).toList=pre++(sa,na+nb,pa)::post:=by
  rw [Array.toList_eraseIdxIfInBounds,Array.toList_setIfInBounds,hp,<-hi]
  rw [List.set_append_right _ _ (Nat.le_refl _),Nat.sub_self,List.set_cons_zero,List.eraseIdx_append_of_length_le (by lia),show pre.length+1-pre.length=1 by lia]
  rfl
 have Jt:∀p∈(arrOf st).toList,p∈a₀.toList:=fun p hp=>hB.mem hp
 obtain ⟨kb,Nt⟩:∃p,(arrOf st)[sa+na]?=some p:=⟨_,getElem?_pos _ (sa+na) (by lia)⟩
 unfold mergeAt'
 refine wpS_bind (wpS_get ?_)
 rw [e1,e2]
 dsimp only
 refine wpS_bind (Xv ?_)
 have O8:SB a₀ k0 (SortSt.mk' (kindOf st) (arrOf st) (((pendingOf st).setIfInBounds i (sa,na+nb,pa)).eraseIdxIfInBounds (i+1)) (gallopOf st) (failedOf st)):=⟨hB.perm,hB.kind,hB.failed⟩
 obtain ⟨tB,tM⟩:=Xh (n:=nb) Nt z2
 have Vy:∀c∈seg (arrOf st).toList (sa+na) nb,r kb≤r c:=fun c Rf=>by
  rw [tM]at Rf sB
  rcases List.mem_cons.mp Rf with rfl|Rf
  ·exact Nat.le_refl _
  ·exact (List.pairwise_cons.mp sB).1 c Rf
 refine wpS_bind (Ad Nt (wpS_bind (FO (base:=sa) (n:=na) (hint:=0) hc O8 (hB.memAt Nt) Jt (by lia) (by lia) sA fun k hk Mx Dr=>?_)))
 dsimp only
 by_cases Tv:na-k=0
 ·rw [if_pos (by simpa using Tv)]
  obtain rfl:k=na:=by lia
  refine wpS_pure (h _ O8 OI ?_ fun _ _ _=>rfl)
  show Runs r (arrOf st).toList 0 (((pendingOf st).setIfInBounds i (sa,k+nb,pa)).eraseIdxIfInBounds (i+1)).toList lo
  rw [OI]
  refine Runs.merge eH (fun _ _ _=>rfl) (fun _ _ _=>rfl) ?_
  have e:seg (arrOf st).toList sa (k+nb)=seg (arrOf st).toList sa k++seg (arrOf st).toList (sa+k) nb:=by
   unfold seg
   rw [List.take_add,List.drop_drop]
  rw [e]
  exact List.pairwise_append.mpr ⟨sA,sB,fun x hx y hy=>Nat.le_trans (Mx x hx) (Vy y hy)⟩
 rw [if_neg (by simpa using Tv)]
 obtain ⟨ka,aD⟩:∃p,(arrOf st)[sa+k+(na-k)-1]?=some p:=⟨_,getElem?_pos _ (sa+k+(na-k)-1) (by lia)⟩
 refine wpS_bind (Ad aD (wpS_bind (Ey (base:=sa+na) (n:=nb) (hint:=nb-1) hc O8 (hB.memAt aD) Jt (by lia) (by lia) sB fun t ht sG n9=>?_)))
 dsimp only
 have ZH:∀c∈(seg (arrOf st).toList sa na).drop k,r c≤r ka:=fun c Rf=>by
  have Ue:(seg (arrOf st).toList sa na)[na-1]?=some ka:=by
   unfold seg
   rw [List.getElem?_take,if_pos (by lia),List.getElem?_drop,Array.getElem?_toList]
   rw [<-aD];congr 1;lia
  obtain ⟨j,hj⟩:=List.mem_iff_getElem?.mp Rf
  rw [List.getElem?_drop]at hj
  have sI:=(List.getElem?_eq_some_iff.mp hj).1
  have hlen:(seg (arrOf st).toList sa na).length≤na:=by unfold seg;rw [List.length_take];lia
  by_cases hje:k+j=na-1
  ·rw [hje,Ue]at hj;cases hj;exact Nat.le_refl _
  ·obtain ⟨q1,q2⟩:=List.getElem?_eq_some_iff.mp Ue
   obtain ⟨q3,q4⟩:=List.getElem?_eq_some_iff.mp hj
   have:=List.pairwise_iff_getElem.mp sA (k+j) (na-1) q3 q1 (by lia)
   rw [q2,q4]at this
   exact this
 by_cases ht0:t=0
 ·rw [if_pos (by simpa using ht0)]
  subst ht0
  refine wpS_pure (h _ O8 OI ?_ fun _ _ _=>rfl)
  show Runs r (arrOf st).toList 0 (((pendingOf st).setIfInBounds i (sa,na+nb,pa)).eraseIdxIfInBounds (i+1)).toList lo
  rw [OI]
  refine Runs.merge eH (fun _ _ _=>rfl) (fun _ _ _=>rfl) ?_
  have e:seg (arrOf st).toList sa (na+nb)=seg (arrOf st).toList sa na++seg (arrOf st).toList (sa+na) nb:=by
   unfold seg
   rw [List.take_add,List.drop_drop]
  rw [e]
  rw [List.drop_zero]at n9
  have eA:seg (arrOf st).toList sa k++(seg (arrOf st).toList sa na).drop k=seg (arrOf st).toList sa na:=by
   unfold seg
   have:=List.take_append_drop k (((arrOf st).toList.drop sa).take na)
   rwa [List.take_take,Nat.min_eq_left hk]at this
  refine List.pairwise_append.mpr ⟨sA,sB,fun x hx y hy=>?_⟩
  rw [<-eA]at hx
  rcases List.mem_append.mp hx with hx|hx
  ·exact Nat.le_trans (Mx x hx) (Vy y hy)
  ·exact Nat.le_trans (ZH x hx) (n9 y hy)
 rw [if_neg (by simpa using ht0)]
 have ex:((arrOf st).extract (sa+k) (sa+na)).toList=(seg (arrOf st).toList sa na).drop k:=by
  rw [DJ]
  unfold seg
  rw [List.drop_take,List.drop_take,List.drop_drop]
  congr 1
  lia
 have ey:((arrOf st).extract (sa+na) (sa+na+t)).toList=seg (arrOf st).toList (sa+na) t:=Es _ _ _
 have sx:Srt r ((arrOf st).extract (sa+k) (sa+na)).toList:=by rw [ex];exact sA.sublist (List.drop_sublist _ _)
 have sy:Srt r ((arrOf st).extract (sa+na) (sa+na+t)).toList:=by
  rw [ey]
  have:seg (arrOf st).toList (sa+na) t=(seg (arrOf st).toList (sa+na) nb).take t:=by unfold seg;rw [List.take_take,Nat.min_eq_left ht]
  rw [this];exact sB.sublist (List.take_sublist _ _)
 have lx:((arrOf st).extract (sa+k) (sa+na)).toList.length=na-k:=by rw [ex];unfold seg;rw [List.length_drop,List.length_take,List.length_drop];lia
 have ly:((arrOf st).extract (sa+na) (sa+na+t)).toList.length=t:=by rw [ey];unfold seg;rw [List.length_take,List.length_drop];lia
 have zx:1≤((arrOf st).extract (sa+k) (sa+na)).size:=by rw [<-Array.length_toList,lx];lia
 have zy:1≤((arrOf st).extract (sa+na) (sa+na+t)).size:=by rw [<-Array.length_toList,ly];lia
 have sF:∀p∈((arrOf st).extract (sa+k) (sa+na)).toList,p∈a₀.toList:=fun p du=>by
  rw [ex]at du
  exact Jt p (List.mem_of_mem_drop (List.mem_of_mem_take (List.mem_of_mem_drop du)))
 have rJ:∀p∈((arrOf st).extract (sa+na) (sa+na+t)).toList,p∈a₀.toList:=fun p du=>by
  rw [ey]at du
  exact Jt p (List.mem_of_mem_drop (List.mem_of_mem_take du))
 have Wg:∀y,((arrOf st).extract (sa+na) (sa+na+t)).toList[0]?=some y->y=kb:=fun y hy=>by
  rw [ey]at hy
  unfold seg at hy
  rw [List.getElem?_take,if_pos (by lia),List.getElem?_drop,Nat.add_zero,Array.getElem?_toList,Nt]at hy
  cases hy;rfl
 have finish:∀(out:Array Keyed) (AO:SortSt),Mg r ((arrOf st).extract (sa+k) (sa+na)).toList ((arrOf st).extract (sa+na) (sa+na+t)).toList out.toList →
   Gl a₀ k0 (SortSt.mk' (kindOf st) (arrOf st) (((pendingOf st).setIfInBounds i (sa,na+nb,pa)).eraseIdxIfInBounds (i+1)) (gallopOf st) (failedOf st)) AO →
   Q (failedOf AO).isNone (SortSt.mk' (kindOf AO) (out.toList.zipIdx.foldl (fun a (p:Keyed×Nat)=>a.setIfInBounds (sa+k+p.2) p.1) (arrOf AO)) (pendingOf AO) (gallopOf AO) (failedOf AO)):=by
  intro out AO hM hG
  have pN:arrOf AO=arrOf st:=hG.arr
  have Y3:(pendingOf AO).toList=pre++(sa,na+nb,pa)::post:=by rw [hG.pend];exact OI
  have wM:out.toList.length=na-k+t:=by rw [hM.perm.length_eq,List.length_append,lx,ly]
  have fI:(failedOf AO).isNone=true:=by rw [hG.base.failed];rfl
  rw [fI]
  have Z6:(out.toList.zipIdx.foldl (fun a (p:Keyed×Nat)=>a.setIfInBounds (sa+k+p.2) p.1) (arrOf AO)).toList=(arrOf st).toList.take (sa+k)++out.toList++(arrOf st).toList.drop (sa+na+t):=by
   rw [pN,Sr _ _ _ (by lia),wM]
   congr 2
   lia
  refine h _ ⟨?_,hG.base.kind,hG.base.failed⟩ Y3 ?_ fun j n hj=>?_
  ·refine Array.Perm.trans ?_ hB.perm
   rw [Array.perm_iff_toList_perm]
   show (out.toList.zipIdx.foldl (fun a (p:Keyed×Nat)=>a.setIfInBounds (sa+k+p.2) p.1) (arrOf AO)).toList.Perm (arrOf st).toList
   rw [Z6]
   have ZE:(arrOf st).toList=(arrOf st).toList.take (sa+k)++(((arrOf st).extract (sa+k) (sa+na)).toList++((arrOf st).extract (sa+na) (sa+na+t)).toList)++(arrOf st).toList.drop (sa+na+t):=by
    rw [DJ,DJ,<-List.append_assoc,EV _ (by lia),EV _ (by lia),List.take_append_drop]
   conv=>rhs;rw [ZE]
   exact ((hM.perm.append_left _).append_right _)
  ·show Runs r (out.toList.zipIdx.foldl (fun a (p:Keyed×Nat)=>a.setIfInBounds (sa+k+p.2) p.1) (arrOf AO)).toList 0 (pendingOf AO).toList lo
   rw [Z6,Y3]
   refine Runs.merge eH (fun j n hj=>?_) (fun j n hj=>?_) ?_
   ·exact XY (by lia) j n (by lia)
   ·exact Pa (by lia) (by lia) j n (by lia)
   ·have:=XR (l:=(arrOf st).toList) (M:=out.toList) (sa:=sa) (k:=k) (i0:=sa+k) (j0:=sa+na+t) (t:=nb-t) rfl (by lia) (by lia)
    rw [show k+out.toList.length+(nb-t)=na+nb by lia]at this
    rw [this]
    refine Q8 sA sB hk ht Mx ZH Vy n9 ?_
    rw [<-ex,<-ey]
    exact hM
  ·show seg (out.toList.zipIdx.foldl (fun a (p:Keyed×Nat)=>a.setIfInBounds (sa+k+p.2) p.1) (arrOf AO)).toList j n=_
   rw [Z6]
   exact Pa (by lia) (by lia) j n (by lia)
 by_cases hle:na-k≤t
 ·rw [if_pos hle]
  refine wpS_bind (PD hc O8 sF rJ sx sy zx zy ?_ ?_ fun out AO hM hG=>wpS_bind (wpS_modify (wpS_bind (wpS_get (wpS_pure (finish out AO hM hG))))))
  ·intro x y hx hy
   have xQ:=Wg y (by rw [Array.getElem?_toList];exact hy)
   subst xQ
   have:x∈((arrOf st).extract (sa+k) (sa+na)).toList:=Array.mem_toList_iff.mpr (Array.mem_of_getElem? hx)
   rw [ex]at this
   exact Nat.le_of_lt (Dr x this)
  ·intro x hx y hy
   rw [ey]at hy
   have lQ:x=ka:=by
    rw [lx,DJ,List.getElem?_drop,List.getElem?_take]at hx
    rw [if_pos (by lia),Array.getElem?_toList]at hx
    rw [show sa+k+(na-k-1)=sa+k+(na-k)-1 by lia,aD]at hx
    cases hx;rfl
   subst lQ
   exact Nat.le_of_lt (sG y hy)
 ·rw [if_neg hle]
  refine wpS_bind (OZ hc O8 sF rJ sx sy zx zy ?_ ?_ fun out AO hM hG=>wpS_bind (wpS_modify (wpS_bind (wpS_get (wpS_pure (finish out AO hM hG))))))
  ·intro y hy x hx
   obtain ⟨j,hj⟩:=List.mem_iff_getElem?.mp hy
   rw [List.getElem?_take]at hj
   split at hj
   ·rename_i rY
    obtain rfl:j=0:=by lia
    have:=Wg y hj
    subst this
    rw [ex]at hx
    exact Nat.le_of_lt (Dr x hx)
   ·cases hj
  ·intro x hx y hy
   rw [ey]at hy
   obtain ⟨j,hj⟩:=List.mem_iff_getElem?.mp hx
   rw [List.getElem?_drop,<-Array.length_toList,lx]at hj
   have sI:=(List.getElem?_eq_some_iff.mp hj).1
   rw [lx]at sI
   obtain rfl:j=0:=by lia
   have lQ:x=ka:=by
    rw [Nat.add_zero,DJ,List.getElem?_drop,List.getElem?_take,if_pos (by lia),Array.getElem?_toList]at hj
    rw [show sa+k+(na-k-1)=sa+k+(na-k)-1 by lia,aD]at hj
    cases hj;rfl
   subst lQ
   exact Nat.le_of_lt (sG y hy)
end
section
variable {prog:Program}{w:World}{A:Around}{E:Value->Shared->Prop}{s:Shared}{a₀:Array Keyed}{r:Keyed->Nat}{k0:SortKind}
theorem L6 {xs:Array Keyed} {i n:Nat} (h:Up r xs i (i+n)):Srt r (seg xs.toList i n):=by
 rw [Srt,List.pairwise_iff_getElem]
 intro j k hj hk zJ
 have e1:(seg xs.toList i n)[j]?=some (seg xs.toList i n)[j]:=List.getElem?_eq_getElem hj
 have e2:(seg xs.toList i n)[k]?=some (seg xs.toList i n)[k]:=List.getElem?_eq_getElem hk
 have UY:k<n:=by unfold seg at hk;rw [List.length_take]at hk;lia
 have f1:xs.toList[i+j]?=some (seg xs.toList i n)[j]:=by
  rw [<-e1];unfold seg;rw [List.getElem?_take,if_pos (by lia),List.getElem?_drop]
 have f2:xs.toList[i+k]?=some (seg xs.toList i n)[k]:=by
  rw [<-e2];unfold seg;rw [List.getElem?_take,if_pos (by lia),List.getElem?_drop]
 have:=h (i+j) (i+k) (by lia) (by lia) (by lia)
 rw [D0 f1,D0 f2]at this
 exact this
theorem PU {xs ys:Array Keyed} {lo:Nat} (h:∀k,k<lo->ys[k]?=xs[k]?) (i n:Nat) (hi:i+n≤lo):seg ys.toList i n=seg xs.toList i n:=by
 refine List.ext_getElem? fun k=>?_
 unfold seg
 rw [List.getElem?_take,List.getElem?_take]
 split
 ·rw [List.getElem?_drop,List.getElem?_drop,Array.getElem?_toList,Array.getElem?_toList]
  exact h _ (by lia)
 ·rfl
theorem WN {p:List (Nat×Nat×Nat)} {i:Nat} (h:i+1<p.length):∃pre sa na pa sb nb pb post,p=pre++(sa,na,pa)::(sb,nb,pb)::post/\pre.length=i:=by
 refine ⟨p.take i,p[i].1,p[i].2.1,p[i].2.2,p[i+1].1,p[i+1].2.1,p[i+1].2.2,p.drop (i+2),?_,by rw [List.length_take];lia⟩
 have e1:=List.drop_eq_getElem_cons (show i<p.length by lia)
 have e2:=List.drop_eq_getElem_cons h
 show p=p.take i++p[i]::p[i+1]::p.drop (i+2)
 rw [<-e2,<-e1,List.take_append_drop]
theorem Runs.last {l:List Keyed}:∀{p:List (Nat×Nat×Nat)} {b lo:Nat} {f:Nat×Nat×Nat->Nat×Nat×Nat},Runs r l b p lo->(∀x,(f x).1=x.1/\(f x).2.1=x.2.1)->∀i,Runs r l b (p.modify i f) lo
 |[],_,_,_,h,_,i=>by cases i<;>simpa using h
 |(st,n,q)::rest,b,lo,f,h,hf,0=>by
  rw [Runs]at h
  rw [List.modify_zero_cons]
  obtain ⟨e1,e2⟩:=hf (st,n,q)
  generalize f (st,n,q)=y at *
  obtain ⟨y1,y2,y3⟩:=y
  simp only at e1 e2
  subst e1;subst e2
  exact h
 |(st,n,q)::rest,b,lo,f,h,hf,i+1=>by
  rw [Runs]at h
  rw [List.modify_succ_cons]
  exact ⟨h.1,h.2.1,h.2.2.1,Runs.last h.2.2.2 hf i⟩
theorem wpS_sortRuns (hc:CmpOk prog w A s a₀ r k0) {st:SortSt} (hB:SB a₀ k0 st) (hp:pendingOf st=#[]) {Q:Unit->SortSt->Prop} (h:∀AO,SB a₀ k0 AO->Srt r (arrOf AO).toList->Q () AO):wpS (model prog w) A E s sortRuns' Q st:=by
 have hsz:=hB.size
 unfold sortRuns'
 refine wpS_bind (wpS_get ?_)
 dsimp only
 rw [show (arrOf st).size=a₀.size from hsz]
 refine wpS_bind (wpS_mono (wpS_forRange (I:=fun x c AO=>∃lo,c=(none,lo)/\SB a₀ k0 AO/\lo≤a₀.size/\(x≤lo\/lo=a₀.size)/\Runs r (arrOf AO).toList 0 (pendingOf AO).toList lo)
  (Q:=fun c AO=>c=(none,a₀.size)/\SB a₀ k0 AO/\Runs r (arrOf AO).toList 0 (pendingOf AO).toList a₀.size) ?_ ?_ ⟨0,rfl,hB,by lia,.inl (by lia),by rw [hp];rfl⟩) ?_)
 rotate_left
 ·rintro c AO ⟨lo,rfl,mM,h1,h2,hR⟩
  obtain rfl:lo=a₀.size:=by lia
  exact ⟨rfl,mM,hR⟩
 ·rintro c AO ⟨rfl,mM,hR⟩
  dsimp only
  refine wpS_bind (wpS_mono (wpS_forRange (I:=fun x c AO=>c=(none,())/\SB a₀ k0 AO/\Runs r (arrOf AO).toList 0 (pendingOf AO).toList a₀.size/\((pendingOf AO).size≤1\/(pendingOf AO).size+x≤a₀.size))
   (Q:=fun c AO=>c=(none,())/\SB a₀ k0 AO/\Runs r (arrOf AO).toList 0 (pendingOf AO).toList a₀.size/\(pendingOf AO).size≤1) ?_ ?_ ⟨rfl,mM,hR,.inr (by have:=hR.le;rw [Array.length_toList]at this;lia)⟩) ?_)
  ·rintro x c BS _ _ ⟨rfl,O8,Vh,ZW⟩
   refine wpS_bind (wpS_get ?_)
   by_cases hle:(pendingOf BS).size≤1
   ·rw [if_pos hle]
    exact wpS_pure ⟨rfl,O8,Vh,hle⟩
   rw [if_neg hle]
   have hpl:(pendingOf BS).toList.length=(pendingOf BS).size:=Array.length_toList
   have go:∀i,i+1<(pendingOf BS).size->wpS (model prog w) A E s (mergeAt' i) (fun b DC=>b=true/\SB a₀ k0 DC/\Runs r (arrOf DC).toList 0 (pendingOf DC).toList a₀.size/\(pendingOf DC).size+1=(pendingOf BS).size) BS:=by
    intro i hi
    obtain ⟨pre,sa,na,pa,sb,nb,pb,post,e,Nk⟩:=WN (p:=(pendingOf BS).toList) (i:=i) (by lia)
    refine Iu hc O8 e Nk (Nat.le_refl _) Vh fun DC pE Nu bH _=>⟨rfl,pE,bH,?_⟩
    have e2:(pendingOf DC).size=(pre++(sa,na+nb,pa)::post).length:=by rw [<-Nu,Array.length_toList]
    rw [e2,<-hpl,e]
    simp only [List.length_append,List.length_cons]
    lia
   have ix:∀(c:Prop) [Decidable c],(if c then (pendingOf BS).size-2-1 else (pendingOf BS).size-2)+1<(pendingOf BS).size:=by
    intro c _
    split<;>lia
   refine wpS_bind (wpS_mono (go _ ?_) ?_)
   ·split<;>exact ix _
   ·rintro b DC ⟨rfl,pE,bH,X4⟩
    rw [if_neg (by decide)]
    exact wpS_pure ⟨rfl,pE,bH,by lia⟩
  ·rintro c BS ⟨rfl,O8,Vh,ZW⟩
   refine ⟨rfl,O8,Vh,?_⟩
   lia
  ·rintro c BS ⟨rfl,O8,Vh,ZW⟩
   refine wpS_pure (h BS O8 ?_)
   have hl:(arrOf BS).toList.length=a₀.size:=by rw [Array.length_toList];exact O8.size
   have hpl:(pendingOf BS).toList.length=(pendingOf BS).size:=Array.length_toList
   cases hq:(pendingOf BS).toList with
   |nil=>
    rw [hq,Runs]at Vh
    have:(arrOf BS).toList=[]:=List.eq_nil_of_length_eq_zero (by lia)
    rw [this];exact List.Pairwise.nil
   |cons q rest=>
    have:rest=[]:=by
     rw [hq,List.length_cons]at hpl
     exact List.eq_nil_of_length_eq_zero (by lia)
    subst this
    obtain ⟨q1,q2,q3⟩:=q
    rw [hq,Runs,Runs]at Vh
    obtain ⟨rfl,_,g1,g2⟩:=Vh
    unfold seg at g1
    rw [List.drop_zero,List.take_of_length_le (by lia)]at g1
    exact g1
 rintro x c BS _ hx ⟨lo,rfl,O8,h1,h2,Vh⟩
 dsimp only
 by_cases Ll:lo≥a₀.size
 ·rw [if_pos Ll]
  obtain rfl:lo=a₀.size:=by lia
  exact wpS_pure ⟨rfl,O8,Vh⟩
 rw [if_neg Ll]
 refine wpS_bind (NB hc O8 (lo:=lo) (nrem:=a₀.size-lo) (by lia) (by lia) fun m DC Vw ao Lp nM=>?_)
 dsimp only
 have bH:Runs r (arrOf DC).toList 0 (pendingOf DC).toList lo:=by
  rw [Lp.pend]
  exact Vh.same fun i n _ hi=>PU Lp.low i n hi
 generalize (sortPriv% PySem.Builtin.minRun) a₀.size a₀.size 0=mr
 by_cases hmr:m<mr
 case' pos=>
  rw [if_pos hmr]
  refine wpS_bind (wpS_lift (wpAny_rule ⟨rfl,?_⟩))
  refine wpS_bind (KS hc Lp.base (lo:=lo) (n:=min (a₀.size-lo) mr) (ok:=m) (by lia) (by lia) nM fun GN Y2 rK=>?_)
  rw [if_neg (by decide)]
  have fu:1≤min (a₀.size-lo) mr:=by lia
  have bZ:lo+min (a₀.size-lo) mr≤a₀.size:=by lia
  have jr:=L6 rK
  have pV:=Y2.base
  have jL:Runs r (arrOf GN).toList 0 (pendingOf GN).toList lo:=by
   rw [Y2.pend]
   exact bH.same fun i n _ hi=>PU Y2.low i n hi
  clear rK Y2
  generalize min (a₀.size-lo) mr=n at *
 case' neg=>
  rw [if_neg hmr]
  have fu:1≤m:=Vw
  have bZ:lo+m≤a₀.size:=by lia
  have jr:=L6 nM
  have pV:=Lp.base
  have jL:=bH
  clear nM Lp bH
  generalize m=n at *
  generalize DC=GN at *
 all_goals
  have fin:∀K4,SB a₀ k0 K4->Runs r (arrOf K4).toList 0 (pendingOf K4).toList lo->Srt r (seg (arrOf K4).toList lo n)->∃Xz,((none:Option Unit),lo+n)=(none,Xz)/\SB a₀ k0 (setPending K4 ((pendingOf K4).push (lo,n,0)))/\Xz≤a₀.size/\(x+1≤Xz\/Xz=a₀.size)/\Runs r (arrOf K4).toList 0 ((pendingOf K4).push (lo,n,0)).toList Xz:=by
   intro K4 WB aO Z5
   refine ⟨lo+n,rfl,⟨WB.perm,WB.kind,WB.failed⟩,bZ,.inl (by lia),?_⟩
   rw [Array.toList_push]
   exact aO.snoc fu Z5
  refine wpS_bind (wpS_get ?_)
  cases hbk:(pendingOf GN).back? with
  |none=>
   dsimp only
   exact wpS_bind (wpS_modify (wpS_pure (fin GN pV jL jr)))
  |some q=>
   obtain ⟨s1,n1,p1⟩:=q
   dsimp only
   refine wpS_bind (wpS_mono (wpS_forRange (I:=fun _ c AO=>c=(none,())/\SB a₀ k0 AO/\Runs r (arrOf AO).toList 0 (pendingOf AO).toList lo/\Srt r (seg (arrOf AO).toList lo n))
    (Q:=fun c AO=>c=(none,())/\SB a₀ k0 AO/\Runs r (arrOf AO).toList 0 (pendingOf AO).toList lo/\Srt r (seg (arrOf AO).toList lo n)) ?_ (fun _ _ z=>z) ⟨rfl,pV,jL,jr⟩) ?_)
   ·rintro y c K4 _ _ ⟨rfl,WB,aO,Z5⟩
    refine wpS_bind (wpS_get ?_)
    by_cases hgt:(pendingOf K4).size > 1
    ·rw [if_pos hgt]
     have hpl:(pendingOf K4).toList.length=(pendingOf K4).size:=Array.length_toList
     obtain ⟨pre,sa,na,pa,sb,nb,pb,post,e,Nk⟩:=WN (p:=(pendingOf K4).toList) (i:=(pendingOf K4).size-2) (by lia)
     have eg:(pendingOf K4)[(pendingOf K4).size-2]?=some (sa,na,pa):=by
      rw [<-Array.getElem?_toList,e,List.getElem?_append_right (by lia),Nk,Nat.sub_self];rfl
     rw [eg]
     dsimp only
     split
     ·exact wpS_pure ⟨rfl,WB,aO,Z5⟩
     ·refine wpS_bind (Iu hc WB e Nk h1 aO fun Zp wo yg sj pU=>?_)
      rw [if_neg (by decide)]
      exact wpS_pure ⟨rfl,wo,sj,by rw [pU lo n (Nat.le_refl _)];exact Z5⟩
    ·rw [if_neg hgt]
     exact wpS_pure ⟨rfl,WB,aO,Z5⟩
   ·rintro c K4 ⟨rfl,WB,aO,Z5⟩
    dsimp only
    refine wpS_bind (wpS_modify (wpS_bind (wpS_modify (wpS_pure (fin (setPending K4 ((pendingOf K4).modify ((pendingOf K4).size-1) fun x=>(x.1,x.2.1,_))) ⟨WB.perm,WB.kind,WB.failed⟩ ?_ Z5)))))
    show Runs r (arrOf K4).toList 0 ((pendingOf K4).modify _ _).toList lo
    rw [Array.toList_modify]
    refine Runs.last aO ?_ _
    exact fun x=>⟨rfl,rfl⟩
end
end TS
namespace TF
open PySem PySem.Spec L2
open PyProof.Rows hiding St RelV
mutual
def Bw (st:Bool):Dat->Dat->Bool
 |.int a,.int b=>if st then decide (a<b)else decide (a≤b)
 |.tup l,.tup m=>Bx st l m
 |_,_=>false
def Bx (st:Bool):List Dat->List Dat->Bool
 |[],[]=>!st
 |[],_::_=>true
 |_::_,[]=>false
 |x::l,y::m=>if eqD x y then Bx st l m else Bw st x y
end
def B6:Nat->Dat->Dat->Bool
 |_,.int _,.int _=>true
 |n+1,.tup l,.tup m=>(l.zip m).all fun p=>B6 n p.1 p.2
 |_,_,_=>false
abbrev fN (st:Bool):CmpOp:=if st then .Lt else .LtE
def XN (st:Bool) (A:Around) (s:Shared) (u v:Value) (b:Bool):Prop:=
 ∀(prog:Program) (w:World) (E:Value->Shared->Prop) (Q:Value->Shared->Prop),Q (.bool b) s->wpAny (model prog w) A (richCompare (fN st) u v) Q E s
section
open PySem.SeqAt
open PySem.AutoSeq1 (wpAny_loadPart')
open PySem.MeetsSeq PySem.MeetsSeq2 PySem.MeetsSeq3
inductive Prs (A:Around) (s:Shared) (st:Bool):List Dat->List Dat->List Value->List Value->Prop
 |nilL {m ws} (h:ws.length=m.length):Prs A s st [] m [] ws
 |nilR {l vs} (h:vs.length=l.length):Prs A s st l [] vs []
 |cons {x y l m u v vs ws} (he:EqAt A s u v (eqD x y)) (hl:XN st A s u v (Bw st x y)) (t:Prs A s st l m vs ws):Prs A s st (x::l) (y::m) (u::vs) (v::ws)
theorem QW (l b:Addr) (items Bg:Array Value) (n n2:Nat) (dd cN:Option Addr) (sl Vc:Array (Option Value)) (ds es:List Dat) :
  Meets (Builtin.«tuple.__lt__» ⟨[.ref l,.ref b],[]⟩)
   (fun A R s=>Prs A.in1 s true ds es items.toList Bg.toList/\ds.length=items.size/\es.length=Bg.size/\s.heap.get? l=some { cls:=.type "tuple",dict:=dd,data:=.seq items n,slots:=sl }/\s.heap.get? b=some { cls:=.type "tuple",dict:=cN,data:=.seq Bg n2,slots:=Vc } ∧
    R (.ok (.ret (.bool (Bx true ds es)))) s):=
 .of_wp fun prog w A R s h=>by
  obtain ⟨hp,g,d,tk,os⟩:=s;obtain ⟨hP,z1,z2,hl,hb,h⟩:=h
  have f2:=AutoSeq1.sub_tuple_tuple
  wp_walk using wpAny_loadPart' hl,wpAny_loadPart' hb,wpAny_forIn_list _ (fun rest b s'=>b.1=none/\s'=⟨hp,g,d,tk,os⟩/\∃(vs ws:List Value) (Gw Gu:List Dat),rest=vs.zip ws ∧
   Prs A.in1 ⟨hp,g,d,tk,os⟩ true Gw Gu vs ws/\Gw.length+Bg.size=Gu.length+items.size/\R (.ok (.ret (.bool (Bx true Gw Gu)))) ⟨hp,g,d,tk,os⟩) _
  case turn=>
   rintro ⟨y,x⟩ rest b s' ⟨O5,rfl,vs,ws,Gw,Gu,hz,Qj,hlen,hR⟩
   cases Qj with
   |nilL hq=>rw [List.zip_nil_left]at hz;cases hz
   |nilR hq=>rw [List.zip_nil_right]at hz;cases hz
   |@cons dx dy l' m' u v LJ rF he A4 gN=>
    rw [List.zip_cons_cons]at hz
    injection hz with nc hrest
    injection nc with hy hx
    subst hy hx
    rw [Bx]at hR
    simp only [List.length_cons]at hlen
    refine wpAny_bind (he prog w _ _ ?_)
    cases hq:eqD dx dy with
    |true=>
     rw [hq,if_pos rfl]at hR
     wp_walk
     exact ⟨rfl,rfl,_,_,_,_,hrest,gN,by lia,hR⟩
    |false=>
     rw [hq,if_neg (by decide)]at hR
     have lR:∀(E:Value->Shared->Prop) (Q:Value->Shared->Prop),Q (.bool (Bw true dx dy)) ⟨hp,g,d,tk,os⟩->wpAny (model prog w) A.in1 (richCompare .Lt y x) Q E ⟨hp,g,d,tk,os⟩:=A4 prog w
     wp_walk using lR
     exact ⟨_,rfl,by simpa using hR⟩
  case fin=>
   rintro ⟨b1,b2⟩ s' ⟨O5,rfl,vs,ws,Gw,Gu,hz,Qj,hlen,hR⟩
   simp only at O5
   subst O5
   have hv:Bx true Gw Gu=decide (items.size<Bg.size):=by
    cases Qj with
    |nilL hq=>
     cases Gu with
     |nil=>
      simp only [List.length_nil]at hlen
      rw [Bx]
      exact (decide_eq_false (by lia)).symm
     |cons y m=>
      simp only [List.length_nil,List.length_cons]at hlen
      rw [Bx]
      exact (decide_eq_true (by lia)).symm
    |nilR hq=>
     cases Gw with
     |nil=>
      simp only [List.length_nil]at hlen
      rw [Bx]
      exact (decide_eq_false (by lia)).symm
     |cons y m=>
      simp only [List.length_nil,List.length_cons]at hlen
      rw [Bx]
      exact (decide_eq_false (by lia)).symm
    |cons he A4 gN=>rw [List.zip_cons_cons]at hz;cases hz
   rw [hv]at hR
   wp_walk
   exact ⟨_,rfl,by simpa [Builtin.Tuple.tupleCompareSizes]using hR⟩
  case h=>
   exact ⟨rfl,rfl,items.toList,Bg.toList,ds,es,rfl,hP,by lia,h⟩
theorem Q1 (l b:Addr) (items Bg:Array Value) (n n2:Nat) (dd cN:Option Addr) (sl Vc:Array (Option Value)) (ds es:List Dat) :
  Meets (Builtin.«tuple.__le__» ⟨[.ref l,.ref b],[]⟩)
   (fun A R s=>Prs A.in1 s false ds es items.toList Bg.toList/\ds.length=items.size/\es.length=Bg.size/\s.heap.get? l=some { cls:=.type "tuple",dict:=dd,data:=.seq items n,slots:=sl }/\s.heap.get? b=some { cls:=.type "tuple",dict:=cN,data:=.seq Bg n2,slots:=Vc } ∧
    R (.ok (.ret (.bool (Bx false ds es)))) s):=
 .of_wp fun prog w A R s h=>by
  obtain ⟨hp,g,d,tk,os⟩:=s;obtain ⟨hP,z1,z2,hl,hb,h⟩:=h
  have f2:=AutoSeq1.sub_tuple_tuple
  wp_walk using wpAny_loadPart' hl,wpAny_loadPart' hb,wpAny_forIn_list _ (fun rest b s'=>b.1=none/\s'=⟨hp,g,d,tk,os⟩/\∃(vs ws:List Value) (Gw Gu:List Dat),rest=vs.zip ws ∧
   Prs A.in1 ⟨hp,g,d,tk,os⟩ false Gw Gu vs ws/\Gw.length+Bg.size=Gu.length+items.size/\R (.ok (.ret (.bool (Bx false Gw Gu)))) ⟨hp,g,d,tk,os⟩) _
  case turn=>
   rintro ⟨y,x⟩ rest b s' ⟨O5,rfl,vs,ws,Gw,Gu,hz,Qj,hlen,hR⟩
   cases Qj with
   |nilL hq=>rw [List.zip_nil_left]at hz;cases hz
   |nilR hq=>rw [List.zip_nil_right]at hz;cases hz
   |@cons dx dy l' m' u v LJ rF he A4 gN=>
    rw [List.zip_cons_cons]at hz
    injection hz with nc hrest
    injection nc with hy hx
    subst hy hx
    rw [Bx]at hR
    simp only [List.length_cons]at hlen
    refine wpAny_bind (he prog w _ _ ?_)
    cases hq:eqD dx dy with
    |true=>
     rw [hq,if_pos rfl]at hR
     wp_walk
     exact ⟨rfl,rfl,_,_,_,_,hrest,gN,by lia,hR⟩
    |false=>
     rw [hq,if_neg (by decide)]at hR
     have lR:∀(E:Value->Shared->Prop) (Q:Value->Shared->Prop),Q (.bool (Bw false dx dy)) ⟨hp,g,d,tk,os⟩->wpAny (model prog w) A.in1 (richCompare .LtE y x) Q E ⟨hp,g,d,tk,os⟩:=A4 prog w
     wp_walk using lR
     exact ⟨_,rfl,by simpa using hR⟩
  case fin=>
   rintro ⟨b1,b2⟩ s' ⟨O5,rfl,vs,ws,Gw,Gu,hz,Qj,hlen,hR⟩
   simp only at O5
   subst O5
   have hv:Bx false Gw Gu=decide (items.size≤Bg.size):=by
    cases Qj with
    |nilL hq=>
     cases Gu with
     |nil=>
      simp only [List.length_nil]at hlen
      rw [Bx]
      exact (decide_eq_true (by lia)).symm
     |cons y m=>
      simp only [List.length_nil,List.length_cons]at hlen
      rw [Bx]
      exact (decide_eq_true (by lia)).symm
    |nilR hq=>
     cases Gw with
     |nil=>
      simp only [List.length_nil]at hlen
      rw [Bx]
      exact (decide_eq_true (by lia)).symm
     |cons y m=>
      simp only [List.length_nil,List.length_cons]at hlen
      rw [Bx]
      exact (decide_eq_false (by lia)).symm
    |cons he A4 gN=>rw [List.zip_cons_cons]at hz;cases hz
   rw [hv]at hR
   wp_walk
   exact ⟨_,rfl,by simpa [Builtin.Tuple.tupleCompareSizes]using hR⟩
  case h=>
   exact ⟨rfl,rfl,items.toList,Bg.toList,ds,es,rfl,hP,by lia,h⟩
theorem Qc {A:Around} {s:Shared} {st:Bool}:∀{l m:List Dat} {vs ws:List Value},vs.length=l.length->ws.length=m.length →
  (∀(i:Nat) x y u v,l[i]?=some x->m[i]?=some y->vs[i]?=some u->ws[i]?=some v->EqAt A s u v (eqD x y)/\XN st A s u v (Bw st x y))->Prs A s st l m vs ws
 |[],m,vs,ws,h1,h2,_=>by
  obtain rfl:=List.eq_nil_of_length_eq_zero h1
  exact .nilL h2
 |_::_,[],vs,ws,h1,h2,_=>by
  obtain rfl:=List.eq_nil_of_length_eq_zero h2
  exact .nilR h1
 |x::l,y::m,[],_,h1,_,_=>by simp at h1
 |x::l,y::m,_::_,[],_,h2,_=>by simp at h2
 |x::l,y::m,u::vs,v::ws,h1,h2,h=>by
  obtain ⟨a,b⟩:=h 0 x y u v rfl rfl rfl rfl
  refine .cons a b (Qc (by simpa using h1) (by simpa using h2) fun i x' y' u' v' g1 g2 g3 g4=>h (i+1) x' y' u' v' (by simpa using g1) (by simpa using g2) (by simpa using g3) (by simpa using g4))
theorem Nd {s:Shared} (st:Bool):∀(n:Nat) {A:Around} {d e:Dat} {u v:Value},B6 n d e=true->AG n d=true->AG n e=true->AtH s.heap d u->AtH s.heap e v->A.units+n<cLine->XN st A s u v (Bw st d e)
 |n,A,.int a,.int b,u,v,ho,_,_,hd,he,hu=>by
  rw [AtH]at hd he
  obtain ⟨t,rfl⟩:=hd
  obtain ⟨t',rfl⟩:=he
  intro prog w E Q h
  rw [Bw]at h
  cases st with
  |true=>exact (PyProof.Rows.lt_int h:wpAny (model prog w) A (compareOp .Lt (.int a t) (.int b t')) Q E s)
  |false=>exact (PyProof.Rows.le_int h:wpAny (model prog w) A (compareOp .LtE (.int a t) (.int b t')) Q E s)
 |n+1,A,.tup l,.tup m,u,v,ho,pd,pe,hd,he,hu=>by
  rw [AtH]at hd he
  obtain ⟨a,is,rfl,ti,rl⟩:=hd
  obtain ⟨b,js,rfl,tj,rm⟩:=he
  rw [B6,List.all_eq_true]at ho
  rw [AG,List.all_eq_true]at pd pe
  have hP:Prs A.in1 s st l m is js:=Qc rl.length rm.length fun i x y u v g1 g2 g3 g4=>by
   obtain ⟨u',IE,ru⟩:=rl.get g1
   obtain ⟨v',Zm,rv⟩:=rm.get g2
   rw [g3]at IE
   rw [g4]at Zm
   cases IE
   cases Zm
   have p1:=pd x (List.mem_of_getElem? g1)
   have p2:=pe y (List.mem_of_getElem? g2)
   have o1:=ho (x,y) (List.mem_of_getElem? (i:=i) (by rw [List.getElem?_zip_eq_some];exact ⟨g1,g2⟩))
   have P2:A.in1.units+n<cLine:=by show A.units+1+n<cLine;lia
   exact ⟨(IL n p1 p2 ru rv P2).1,Nd st n o1 p1 p2 ru rv P2⟩
  obtain ⟨⟨cls,dd,data,sl⟩,N7,hc,n1,hd⟩:=id ti
  obtain ⟨⟨wc,cN,data2,Vc⟩,WR,iD,n2,hd2⟩:=id tj
  simp only at hc hd iD hd2
  subst hc hd iD hd2
  intro prog w E Q h
  rw [Bw]at h
  have z1:l.length=is.toArray.size:=by rw [List.size_toArray,rl.length]
  have z2:m.length=js.toArray.size:=by rw [List.size_toArray,rm.length]
  cases st with
  |true=>
   exact richCompare_meets_room (op:=.Lt) ⟨_,N7,rfl⟩ ⟨_,WR,rfl⟩ PySem.F.slot_tuple_lt PySem.F.entry_tuple_lt (PySem.F.args_tuple_lt_2 _ _) (QW a b is.toArray js.toArray n1 n2 dd cN sl Vc l m)
    ⟨hP,z1,z2,N7,WR,show Value.bool (Bx true l m)≠Value.notImplemented/\Q (.bool (Bx true l m)) s from ⟨(fun x=>nomatch x),h⟩⟩ (by lia)
  |false=>
   exact richCompare_meets_room (op:=.LtE) ⟨_,N7,rfl⟩ ⟨_,WR,rfl⟩ PySem.F.slot_tuple_le PySem.F.entry_tuple_le (PySem.F.args_tuple_le_2 _ _) (Q1 a b is.toArray js.toArray n1 n2 dd cN sl Vc l m)
    ⟨hP,z1,z2,N7,WR,show Value.bool (Bx false l m)≠Value.notImplemented/\Q (.bool (Bx false l m)) s from ⟨(fun x=>nomatch x),h⟩⟩ (by lia)
 |0,_,.tup _,.tup _,_,_,ho,_,_,_,_,_=>by simp [B6]at ho
 |_,_,.int _,.tup _,_,_,ho,_,_,_,_,_=>by simp [B6]at ho
 |_,_,.tup _,.int _,_,_,ho,_,_,_,_,_=>by simp [B6]at ho
 |_,_,.non,_,_,_,ho,_,_,_,_,_=>by simp [B6]at ho
 |_,_,.bl _,_,_,_,ho,_,_,_,_,_=>by simp [B6]at ho
 |_,_,.str _,_,_,_,ho,_,_,_,_,_=>by simp [B6]at ho
 |_,_,.fn _,_,_,_,ho,_,_,_,_,_=>by simp [B6]at ho
 |_,_,.scr _,_,_,_,ho,_,_,_,_,_=>by simp [B6]at ho
 |_,_,.lst _,_,_,_,ho,_,_,_,_,_=>by simp [B6]at ho
 |_,_,.int _,.non,_,_,ho,_,_,_,_,_=>by simp [B6]at ho
 |_,_,.int _,.bl _,_,_,ho,_,_,_,_,_=>by simp [B6]at ho
 |_,_,.int _,.str _,_,_,ho,_,_,_,_,_=>by simp [B6]at ho
 |_,_,.int _,.fn _,_,_,ho,_,_,_,_,_=>by simp [B6]at ho
 |_,_,.int _,.scr _,_,_,ho,_,_,_,_,_=>by simp [B6]at ho
 |_,_,.int _,.lst _,_,_,ho,_,_,_,_,_=>by simp [B6]at ho
 |_,_,.tup _,.non,_,_,ho,_,_,_,_,_=>by simp [B6]at ho
 |_,_,.tup _,.bl _,_,_,ho,_,_,_,_,_=>by simp [B6]at ho
 |_,_,.tup _,.str _,_,_,ho,_,_,_,_,_=>by simp [B6]at ho
 |_,_,.tup _,.fn _,_,_,ho,_,_,_,_,_=>by simp [B6]at ho
 |_,_,.tup _,.scr _,_,_,ho,_,_,_,_,_=>by simp [B6]at ho
 |_,_,.tup _,.lst _,_,_,ho,_,_,_,_,_=>by simp [B6]at ho
end
end TF
namespace TF
open PySem PySem.Spec L2
open PyProof.Rows hiding St RelV
open HT (lexLt)
section
mutual
theorem AtH.kept {h h':Heap} (k:∀b o,h.get? b=some o->h'.get? b=some o):∀{d:Dat} {u:Value},AtH h d u->AtH h' d u
 |.non,_,r=>by rw [AtH]at r ⊢;exact r
 |.bl _,_,r=>by rw [AtH]at r ⊢;exact r
 |.int _,_,r=>by rw [AtH]at r ⊢;exact r
 |.str _,_,r=>by rw [AtH]at r ⊢;exact r
 |.fn _,_,r=>by rw [AtH]at r ⊢;exact r
 |.scr _,_,r=>by rw [AtH]at r;exact r.elim
 |.tup _,_,r=>by
  rw [AtH]at r ⊢
  obtain ⟨a,its,h1,⟨o,h2,h3⟩,h4⟩:=r
  exact ⟨a,its,h1,⟨o,k _ _ h2,h3⟩,AtL.kept k h4⟩
 |.lst _,_,r=>by
  rw [AtH]at r ⊢
  obtain ⟨a,its,h1,⟨o,h2,h3⟩,h4⟩:=r
  exact ⟨a,its,h1,⟨o,k _ _ h2,h3⟩,AtL.kept k h4⟩
theorem AtL.kept {h h':Heap} (k:∀b o,h.get? b=some o->h'.get? b=some o):∀{ds:List Dat} {us:List Value},AtL h ds us->AtL h' ds us
 |[],_,r=>by rw [AtL]at r ⊢;exact r
 |_::_,_,r=>by
  rw [AtL]at r ⊢
  obtain ⟨u,r',h1,h2,h3⟩:=r
  exact ⟨u,r',h1,AtH.kept k h2,AtL.kept k h3⟩
end
theorem AtL.mem {h:Heap}:∀{ds:List Dat} {us:List Value},AtL h ds us->∀u∈us,∃d∈ds,AtH h d u
 |[],_,r,u,hu=>by rw [AtL]at r;subst r;cases hu
 |d::ds,_,r,u,hu=>by
  rw [AtL]at r
  obtain ⟨u',r',rfl,h2,h3⟩:=r
  rcases List.mem_cons.mp hu with rfl|hu
  ·exact ⟨d,List.mem_cons_self ..,h2⟩
  ·obtain ⟨d',h4,h5⟩:=AtL.mem h3 u hu
   exact ⟨d',List.mem_cons_of_mem _ h4,h5⟩
theorem IZ:∀l:List Int,lexLt l l=false
 |[]=>rfl
 |x::l=>by rw [HT.lexLt_cons,if_pos rfl,IZ l]
theorem Hc:∀{a b c:List Int},lexLt a b=true->lexLt b c=true->lexLt a c=true
 |[],[],_,h,_=>by cases h
 |[],_::_,[],_,h=>by cases h
 |[],_::_,_::_,_,_=>rfl
 |_::_,[],_,h,_=>by cases h
 |_::_,_::_,[],_,h=>by cases h
 |x::a,y::b,z::c,h1,h2=>by
  rw [HT.lexLt_cons]at *
  split at h1<;>split at h2
  ·rename_i e1 e2;subst e1;subst e2;rw [if_pos rfl];exact Hc h1 h2
  ·rename_i e1 e2;subst e1;rw [if_neg e2];exact h2
  ·rename_i e1 e2;subst e2;rw [if_neg e1];exact h1
  ·rename_i e1 e2
   simp only [decide_eq_true_eq]at h1 h2
   rw [if_neg (by lia)]
   simp only [decide_eq_true_eq];lia
theorem Fn:∀{a b:List Int},lexLt a b=false->lexLt b a=false->a=b
 |[],[],_,_=>rfl
 |[],_::_,h,_=>by cases h
 |_::_,[],_,h=>by cases h
 |x::a,y::b,h1,h2=>by
  rw [HT.lexLt_cons]at *
  by_cases e:x=y
  ·subst e
   rw [if_pos rfl]at h1 h2
   rw [Fn h1 h2]
  ·rw [if_neg e]at h1
   rw [if_neg (Ne.symm e)]at h2
   simp only [decide_eq_false_iff_not]at h1 h2
   lia
theorem Wf {a b c:List Int} (h:lexLt a c=true):lexLt a b=true\/lexLt b c=true:=by
 cases e:lexLt a b with
 |true=>exact .inl rfl
 |false=>
  right
  cases e2:lexLt b a with
  |false=>
   have:=Fn e e2
   subst this;exact h
  |true=>exact Hc e2 h
structure OrdL (g:Dat->List Int) (ds:List Dat):Prop where
 lt:∀x∈ds,∀y∈ds,Bw true x y=lexLt (g x) (g y)
 ord:∀x∈ds,∀y∈ds,B6 8 x y=true
 pl:∀x∈ds,AG 8 x=true
 tup:∀x∈ds,∃y l,x=.tup (y::l)
 one:(∀x∈ds,∃i l,x=.tup (.int i::l))\/(∀x∈ds,∃k l,x=.tup (.tup k::l))
open Classical in
def By (h:Heap) (u:Value):Dat:=if e:∃d,AG 8 d=true/\AtH h d u then Classical.choose e else .non
theorem Bs {h:Heap} {d:Dat} {u:Value} (p:AG 8 d=true) (r:AtH h d u):By h u=d:=by
 have e:∃d,AG 8 d=true/\AtH h d u:=⟨d,p,r⟩
 unfold By
 rw [dif_pos e]
 obtain ⟨a,b⟩:=Classical.choose_spec e
 exact AtH.inj 8 a p b r
def rkD (g:Dat->List Int) (ds:List Dat) (d:Dat):Nat:=ds.countP fun z=>lexLt (g z) (g d)
theorem NC (g:Dat->List Int):∀(ds:List Dat) {x y:Dat},lexLt (g x) (g y)=true->rkD g ds x≤rkD g ds y/\(x∈ds->rkD g ds x<rkD g ds y)
 |[],x,y,_=>⟨Nat.le_refl _,fun h=>by cases h⟩
 |z::ds,x,y,h=>by
  obtain ⟨i1,i2⟩:=NC g ds h
  unfold rkD at *
  rw [List.countP_cons,List.countP_cons]
  have imp:lexLt (g z) (g x)=true->lexLt (g z) (g y)=true:=fun e=>Hc e h
  constructor
  ·cases e1:lexLt (g z) (g x)with
   |true=>rw [imp e1];simp;exact i1
   |false=>simp;lia
  ·intro hx
   rcases List.mem_cons.mp hx with rfl|hx
   ·rw [IZ,h];simp;lia
   ·have:=i2 hx
    cases e1:lexLt (g z) (g x)with
    |true=>rw [imp e1];simp;lia
    |false=>simp;lia
theorem WV (g:Dat->List Int) (ds:List Dat) {x y:Dat} (hx:x∈ds) (hy:y∈ds):decide (rkD g ds x<rkD g ds y)=lexLt (g x) (g y):=by
 cases e:lexLt (g x) (g y)with
 |true=>exact decide_eq_true ((NC g ds e).2 hx)
 |false=>
  refine decide_eq_false fun A4=>?_
  cases e2:lexLt (g y) (g x)with
  |true=>have:=(NC g ds e2).2 hy;lia
  |false=>
   have:=Fn e e2
   unfold rkD at A4
   rw [this]at A4
   lia
section
variable {prog:Program}{w:World}{A:Around}{E:Value->Shared->Prop}{s:Shared}
theorem Yc {d e:Dat} {u v:Value} (fl:Bool) {Q:Bool->Shared->Prop} (hf:fl=true->(∃i,d=.int i)/\∃j,e=.int j) (hl:XN true A s u v (Bw true d e)) (rd:AtH s.heap d u) (re:AtH s.heap e v) (h:Q (Bw true d e) s):wpAny (model prog w) A (oneLt' fl u v) Q E s:=by
 cases fl with
 |true=>
  obtain ⟨⟨i,rfl⟩,j,rfl⟩:=hf rfl
  rw [AtH]at rd re
  obtain ⟨t,rfl⟩:=rd
  obtain ⟨t',rfl⟩:=re
  refine oneLt_int ?_
  rw [Bw]at h
  exact h
 |false=>
  refine PySem.W.kat_one u v ?_
  exact hl prog w E _ h
theorem XX {fl:Bool} {a b:Addr} {l m:List Dat} {is js:List Value} {Q:Bool->Shared->Prop} (ti:s.heap.IsTuple a is.toArray) (tj:s.heap.IsTuple b js.toArray) (rl:AtL s.heap l is) (rm:AtL s.heap m js) (hP:Prs A s true l m is js)
  (hf:fl=true->∀x y,l[0]?=some x->m[0]?=some y->(∃i,x=.int i)/\∃j,y=.int j) (h:Q (Bx true l m) s):wpAny (model prog w) A (keyLt' (tuples' fl) (.ref a) (.ref b)) Q E s:=by
 obtain ⟨o1,h1,_,n1,d1⟩:=ti
 obtain ⟨o2,h2,_,n2,d2⟩:=tj
 refine PySem.W.kat_lt h1 d1 h2 d2 ?_
 have z1:is.toArray.size=l.length:=by rw [List.size_toArray,rl.length]
 have z2:js.toArray.size=m.length:=by rw [List.size_toArray,rm.length]
 have gen:∀(i:Nat) (l' m':List Dat) (fc ZN:List Value),Prs A s true l' m' fc ZN->AtL s.heap l' fc->AtL s.heap m' ZN->(fl&&i==0)=true/\l'=l/\m'=m\/(fl&&i==0)=false->l'.length+m.length=m'.length+l.length->Q (Bx true l' m') s →
   PySem.W.KatLex prog w A fl (decide (is.toArray.size<js.toArray.size)) Q (fc.zip ZN) i s:=by
  intro i l' m' fc ZN Qj
  induction Qj generalizing i with
  |@nilL m' ws hq=>
   intro _ _ _ hl hQ
   rw [List.zip_nil_left]
   refine PySem.W.kat_nil ?_
   rw [z1,z2]
   rw [List.length_nil]at hl
   cases m' with
   |nil=>rw [Bx]at hQ;rw [decide_eq_false (by simp at hl;lia)];exact hQ
   |cons y m'=>rw [Bx]at hQ;rw [decide_eq_true (by simp at hl;lia)];exact hQ
  |@nilR l' vs hq=>
   intro _ _ _ hl hQ
   rw [List.zip_nil_right]
   refine PySem.W.kat_nil ?_
   rw [z1,z2]
   rw [List.length_nil]at hl
   cases l' with
   |nil=>rw [Bx]at hQ;rw [decide_eq_false (by simp at hl;lia)];exact hQ
   |cons y l'=>rw [Bx]at hQ;rw [decide_eq_false (by simp at hl;lia)];exact hQ
  |@cons x y l' m' u v vs ws he XG t ih=>
   intro r1 r2 Wo hlen hQ
   rw [AtL]at r1 r2
   obtain ⟨u',LJ,e1,ru,sY⟩:=r1
   obtain ⟨v',rF,e2,rv,rws⟩:=r2
   cases e1
   cases e2
   rw [List.zip_cons_cons]
   refine PySem.W.kat_cons (he prog w _ _ ?_)
   rw [Bx]at hQ
   cases hq:eqD x y with
   |true=>
    rw [hq,if_pos rfl]at hQ
    refine PySem.W.kat_yes (ih (i+1) sY rws (.inr (by simp)) (by simp at hlen;lia) hQ)
   |false=>
    rw [hq,if_neg (by decide)]at hQ
    refine PySem.W.kat_no (Yc _ (fun sV=>?_) XG ru rv hQ)
    rcases Wo with ⟨g1,g2,g3⟩|g1
    ·refine hf ?_ x y ?_ ?_
     ·cases fl<;>simp_all
     ·rw [<-g2];rfl
     ·rw [<-g3];rfl
    ·rw [g1]at sV;cases sV
 refine gen 0 l m is js hP rl rm ?_ (Nat.add_comm _ _) h
 cases fl with
 |true=>exact .inl ⟨rfl,rfl,rfl⟩
 |false=>exact .inr rfl
theorem Yb {g:Dat->List Int} {ds:List Dat} {vs:List Value} (r:AtL s.heap ds vs) (O:OrdL g ds) {fl:Bool} (hf:fl=true->∀x∈ds,∃i l,x=.tup (.int i::l)) (hu:A.units+8<cLine) :
  TS.CmpOk prog w A s (pairsOf vs) (fun p=>rkD g ds (By s.heap p.1)) (tuples' fl):=by
 intro x y hx hy E Q hq
 rw [pairsOf_toList]at hx hy
 obtain ⟨d,hd,rd⟩:=r.mem _ (mem_zip_self hx).2
 obtain ⟨e,he,re⟩:=r.mem _ (mem_zip_self hy).2
 have yL:decide (rkD g ds (By s.heap x.1)<rkD g ds (By s.heap y.1))=Bw true d e:=by
  rw [Bs (O.pl d hd) rd,Bs (O.pl e he) re,WV g ds hd he,<-O.lt d hd e he]
 replace hq:Q (Bw true d e) s:=by rw [<-yL];exact hq
 have hl:=Nd (A:=A) (s:=s) true 8 (O.ord d hd e he) (O.pl d hd) (O.pl e he) rd re hu
 obtain ⟨x0,l,rfl⟩:=O.tup d hd
 obtain ⟨y0,m,rfl⟩:=O.tup e he
 have od:=O.ord _ hd _ he
 have p1:=O.pl _ hd
 have p2:=O.pl _ he
 rw [AG,List.all_eq_true]at p1 p2
 rw [B6,List.all_eq_true]at od
 rw [AtH]at rd re
 obtain ⟨a,is,ea,ti,rl⟩:=rd
 obtain ⟨b,js,eb,tj,rm⟩:=re
 rw [ea,eb]
 rw [Bw]at hq
 refine XX ti tj rl rm (Qc rl.length rm.length fun i x y u v g1 g2 g3 g4=>?_) (fun h0 x y g1 g2=>?_) hq
 ·obtain ⟨u',IE,ru⟩:=rl.get g1
  obtain ⟨v',Zm,rv⟩:=rm.get g2
  rw [g3]at IE
  rw [g4]at Zm
  cases IE
  cases Zm
  have q1:=p1 x (List.mem_of_getElem? g1)
  have q2:=p2 y (List.mem_of_getElem? g2)
  have o1:=od (x,y) (List.mem_of_getElem? (i:=i) (by rw [List.getElem?_zip_eq_some];exact ⟨g1,g2⟩))
  exact ⟨(IL 7 q1 q2 ru rv (by lia)).1,Nd true 7 o1 q1 q2 ru rv (by lia)⟩
 ·obtain ⟨i,l',e1⟩:=hf h0 _ hd
  obtain ⟨j,m',e2⟩:=hf h0 _ he
  cases e1
  cases e2
  cases g1
  cases g2
  exact ⟨⟨i,rfl⟩,j,rfl⟩
theorem Gm {g:Dat->List Int} {T:Value}:∀{ds:List Dat} {vs:List Value},AtL s.heap ds vs->(∀x∈ds,∃y l,x=.tup (y::l)/\∀u,AtH s.heap y u->PySem.W.Looks (model prog w) s.heap (typeOf u) T)->∃fs,PySem.W.KatTups s.heap vs fs/\fs.length=vs.length/\∀v∈fs,PySem.W.Looks (model prog w) s.heap (typeOf v) T
 |[],_,r,_=>by rw [AtL]at r;subst r;exact ⟨[],trivial,rfl,fun _ h=>by cases h⟩
 |d::ds,_,r,h=>by
  rw [AtL]at r
  obtain ⟨u,LJ,rfl,rd,rr⟩:=r
  obtain ⟨fs,h1,h2,h3⟩:=Gm (g:=g) rr fun x hx=>h x (List.mem_cons_of_mem _ hx)
  obtain ⟨y,l,rfl,hy⟩:=h d (List.mem_cons_self ..)
  rw [AtH]at rd
  obtain ⟨a,is,rfl,⟨o,ho,hc,n,hd⟩,rl⟩:=rd
  rw [AtL]at rl
  obtain ⟨u0,fc,rfl,ru,_⟩:=rl
  refine ⟨u0::fs,.cons ho hc hd rfl h1,by simp [h2],fun v hv=>?_⟩
  rcases List.mem_cons.mp hv with rfl|hv
  ·exact hy _ ru
  ·exact h3 v hv
theorem VZ {α:Type} {R:α->α->Prop}:∀{l:List α},l.length<2->l.Pairwise R
 |[],_=>.nil
 |[_],_=>List.pairwise_singleton _ _
 |_::_::_,h=>absurd h (by simp)
theorem Jx {g:Dat->List Int} {a:Addr} {ds:List Dat} {vs:List Value} {n:Nat} {P:PySem.Fin->Shared->Prop} (ho:s.heap.get? a=some (seqObj "list" vs.toArray n)) (r:AtL s.heap ds vs) (yp:∀b o,b≠a->s.heap.get? b=some o->True) (IF:∀(h':Heap),(∀b o,b≠a->s.heap.get? b=some o->h'.get? b=some o)->AtL h' ds vs) (O:OrdL g ds) (hsz:vs.length≤sizeLine) (hu:A.units+8<cLine)
  (h:∀out:Array Value,out.toList.Perm vs->(out.toList.map fun u=>g (By s.heap u)).Pairwise (fun x y=>HT.lexLt y x=false)->P (.done (.ret .none)) { s with heap:=sortedHeap s.heap a vs out }) :
  wpAny (model prog w) A (Builtin.«list.sort» ⟨[.ref a],[]⟩) P E s:=by
 rw [list_sort_plain]
 have ha:a<s.heap.objs.size:=Heap.lt_size ho
 refine wpAny_bind (listItems_at ho rfl ?_)
 refine wpAny_bind (listUpdate_at ho rfl ?_ (by rw [List.size_toArray];exact hsz) (Nat.zero_le _))
 obtain ⟨e1,N7⟩:∃e1,(s.heap.update a (Obj.mapSeq fun _=>#[])).get? a=some (seqObj "list" #[] e1):=⟨_,get?_update_seq ho (fun _=>#[])⟩
 refine wpAny_bind (seqEpoch_at N7 rfl ?_)
 refine wpAny_bind (wpAny_newTuple ?_ (by show vs.length≤_;exact hsz))
 refine wpAny_bind (wpAny_newList ?_ (Nat.zero_le _))
 refine wpAny_holding ?_
 have iB:(((s.heap.update a (Obj.mapSeq fun _=>#[])).push (seqObj "tuple" vs.toArray 0)).push (seqObj "list" #[] 0)).get? a=some (seqObj "list" #[] e1):=by
  rw [Heap.get?_push_ne _ _ _ (by rw [size_push',Heap.size_update];exact Nat.ne_of_lt (Nat.lt_succ_of_lt ha)),Heap.get?_push_ne _ _ _ (by rw [Heap.size_update];exact Nat.ne_of_lt ha)]
  exact N7
 have keep:∀b o,b≠a->s.heap.get? b=some o->(((s.heap.update a (Obj.mapSeq fun _=>#[])).push (seqObj "tuple" vs.toArray 0)).push (seqObj "list" #[] 0)).get? b=some o:=fun b o hb e=>by
  have A4:b<s.heap.objs.size:=Heap.lt_size e
  rw [Heap.get?_push_ne _ _ _ (by rw [size_push',Heap.size_update];exact Nat.ne_of_lt (Nat.lt_succ_of_lt A4)),Heap.get?_push_ne _ _ _ (by rw [Heap.size_update];exact Nat.ne_of_lt A4),Heap.get?_update_ne _ _ _ _ hb]
  exact e
 have r6:=IF _ keep
 show wpAny (model prog w) A _ P E { s with heap:=((s.heap.update a (Obj.mapSeq fun _=>#[])).push (seqObj "tuple" vs.toArray 0)).push (seqObj "list" #[] 0) }
 generalize hh6:((s.heap.update a (Obj.mapSeq fun _=>#[])).push (seqObj "tuple" vs.toArray 0)).push (seqObj "list" #[] 0)=h6 at *
 have eV:∀u∈vs,By h6 u=By s.heap u:=fun u IE=>by
  obtain ⟨i,hi⟩:=List.mem_iff_getElem?.mp IE
  have hl:=r.length
  have iI:=(List.getElem?_eq_some_iff.mp hi).1
  have hd:ds[i]?=some (ds[i]'(by lia)):=List.getElem?_eq_getElem (by lia)
  obtain ⟨u1,q1,q2⟩:=r.get hd
  obtain ⟨u2,q3,q4⟩:=r6.get hd
  rw [hi]at q1 q3
  cases q1
  cases q3
  have p:=O.pl _ (List.getElem_mem (by lia:i<ds.length))
  rw [Bs p q2,Bs p q4]
 dsimp only
 have nD:vs.toArray.size=vs.length:=by simp
 by_cases h2:vs.toArray.size<2
 ·rw [if_pos h2,if_pos h2]
  refine wpAny_bind (wpAny_pure ?_)
  rw [StateT.run_pure]
  refine wpAny_bind (wpAny_pure ?_)
  dsimp only
  refine wpAny_bind (seqEpoch_at iB rfl ?_)
  refine wpAny_bind (listUpdate_at iB rfl ?_ (Nat.zero_le _) (by rw [Array.size_map];show (pairsOf vs).size≤_;rw [pairsOf_size];lia))
  simp only [bne_self_eq_false,Bool.false_eq_true,if_false]
  have e:(vs.toArray.zip vs.toArray).map (·.2)=vs.toArray:=by
   apply Array.toList_inj.mp
   rw [Array.toList_map]
   show (pairsOf vs).toList.map (·.2)=vs
   rw [pairsOf_toList,List.map_snd_zip (Nat.le_refl _)]
  have:=h vs.toArray (by simp) (by
   rw [nD]at h2
   exact VZ (by simpa using h2))
  refine wpAny_pure ?_
  unfold sortedHeap at this
  rw [hh6]at this
  show P _ { s with heap:=h6.update a (Obj.mapSeq fun _=>(vs.toArray.zip vs.toArray).map (·.2)) }
  rw [e]
  exact this
 rw [if_neg h2,if_neg h2]
 have Co:0<vs.length:=by lia
 obtain ⟨fl,Wo,Wq⟩:∃fl:Bool,(fl=true->∀x∈ds,∃i l,x=.tup (.int i::l))/\∀(Q:SortKind->Shared->Prop),Q (tuples' fl) { s with heap:=h6 }->wpAny (model prog w) A (keyKind' vs.toArray) Q E { s with heap:=h6 }:=by
  rcases O.one with HE|HE
  ·refine ⟨true,fun _=>HE,fun Q hQ=>?_⟩
   obtain ⟨fs,k1,k2,k3⟩:=Gm (prog:=prog) (w:=w) (s:={ s with heap:=h6 }) (g:=g) (T:=.type "int") r6 fun x hx=>by
    obtain ⟨i,l,rfl⟩:=HE x hx
    refine ⟨_,l,rfl,fun u IE=>?_⟩
    rw [AtH]at IE
    obtain ⟨t,rfl⟩:=IE
    exact PySem.W.Looks.of_pure rfl
   exact PySem.W.kat_kind k1 (by lia) k3 rfl hQ
  ·refine ⟨false,(fun h=>nomatch h),fun Q hQ=>?_⟩
   obtain ⟨fs,k1,k2,k3⟩:=Gm (prog:=prog) (w:=w) (s:={ s with heap:=h6 }) (g:=g) (T:=.type "tuple") r6 fun x hx=>by
    obtain ⟨i,l,rfl⟩:=HE x hx
    refine ⟨_,l,rfl,fun u IE=>?_⟩
    rw [AtH]at IE
    obtain ⟨b,is,rfl,⟨o,q1,q2,_⟩,_⟩:=IE
    have:=(PySem.W.Looks.ld (M:=model prog w) (part:=none) q1).andThen (f:=fun o=>pure o.cls) (b:=o.cls) .now
    rw [q2]at this
    exact (show PySem.W.Looks (model prog w) h6 (typeOf (.ref b)) (.type "tuple")from q2▸(PySem.W.Looks.ld q1).andThen .now)
   exact PySem.W.kat_kind k1 (by lia) k3 rfl hQ
 refine wpAny_bind (Wq _ ?_)
 have hc:=Yb (prog:=prog) (w:=w) (A:=A) (s:={ s with heap:=h6 }) (g:=g) r6 O Wo hu
 refine wpAny_bind (wpAny_mono (TS.wpS_sortRuns (st:=SortSt.mk' (tuples' fl) (vs.toArray.zip vs.toArray) #[] 7 none) (Q:=fun _ AO=>TS.SB (pairsOf vs) (tuples' fl) AO/\TS.Srt (fun p=>rkD g ds (By h6 p.1)) (arrOf AO).toList) hc ⟨Array.Perm.refl _,rfl,rfl⟩ rfl fun AO b1 b2=>⟨b1,b2⟩) ?_ fun _ _ e=>e)
 rintro ⟨⟨⟩,AO⟩ s' ⟨rfl,hB,hS⟩
 dsimp only
 refine wpAny_bind (seqEpoch_at iB rfl ?_)
 have mW:(arrOf AO).toList.Perm (vs.zip vs):=by rw [<-pairsOf_toList];exact Array.perm_iff_toList_perm.mp hB.perm
 refine wpAny_bind (listUpdate_at iB rfl ?_ (Nat.zero_le _) (by rw [Array.size_map,hB.size,pairsOf_size];lia))
 have fM:failedOf AO=none:=hB.failed
 rw [fM]
 simp only [bne_self_eq_false,Bool.false_eq_true,if_false]
 refine wpAny_pure ?_
 have:=h ((arrOf AO).map (·.2)) (by
  rw [Array.toList_map]
  have:=mW.map (·.2)
  rwa [List.map_snd_zip (Nat.le_refl _)]at this) (by
  rw [Array.toList_map,List.map_map,List.pairwise_map]
  refine List.Pairwise.imp_of_mem (fun {x y} hx hy hle=>?_) hS
  have mx:=mem_zip_self (mW.mem_iff.mp hx)
  have my:=mem_zip_self (mW.mem_iff.mp hy)
  show HT.lexLt (g (By s.heap y.2)) (g (By s.heap x.2))=false
  rw [<-mx.1,<-my.1,<-eV _ mx.2,<-eV _ my.2]
  obtain ⟨dx,sN,uV⟩:=r6.mem _ mx.2
  obtain ⟨dy,sR,wa⟩:=r6.mem _ my.2
  have ky:rkD g ds (By h6 x.1)≤rkD g ds (By h6 y.1):=hle
  rw [Bs (O.pl _ sN) uV,Bs (O.pl _ sR) wa]at ky ⊢
  rw [<-WV g ds sR sN]
  exact decide_eq_false (by lia))
 unfold sortedHeap at this
 rw [hh6]at this
 exact this
end
end
end TF
namespace TF
open PySem PySem.Spec L2
open PyProof.Rows hiding St RelV
inductive Tri (K:PySem.W.Frag) (H:Hp):List Dat->List V->List Value->Prop
 |nil:Tri K H [] [] []
 |cons {d v u ds vs us} (h:Rep K H d v) (r:RelV v u) (t:Tri K H ds vs us):Tri K H (d::ds) (v::vs) (u::us)
theorem VI {K:PySem.W.Frag} {H:Hp}:∀{ds:List Dat} {vs:List V} {us:List Value},RepL K H ds vs->Vals vs us->Tri K H ds vs us
 |[],_,_,r,v=>by rw [RepL]at r;subst r;cases v;exact .nil
 |d::ds,_,_,r,v=>by
  rw [RepL]at r
  obtain ⟨x,r',rfl,h1,h2⟩:=r
  cases v with
  |cons q t=>exact .cons h1 q (VI h2 t)
theorem Tri.rep {K:PySem.W.Frag} {H:Hp} {ds:List Dat} {vs:List V} {us:List Value} (h:Tri K H ds vs us):RepL K H ds vs/\Vals vs us:=by
 induction h with
 |nil=>exact ⟨RepL.nil,.nil⟩
 |cons h r t ih=>exact ⟨RepL.cons h ih.1,.cons r ih.2⟩
theorem Tri.same {K:PySem.W.Frag} {H H':Hp} {ds:List Dat} {vs:List V} {us:List Value} (e:Same H H') (h:Tri K H ds vs us):Tri K H' ds vs us:=by
 induction h with
 |nil=>exact .nil
 |cons h r t ih=>exact .cons (h.same e) r ih
theorem Pb {K:PySem.W.Frag} {H:Hp} {us qc:List Value} (p:qc.Perm us):∀{ds:List Dat} {vs:List V},Tri K H ds vs us->∃Gw LJ,Tri K H Gw LJ qc/\Gw.Perm ds:=by
 induction p with
 |nil=>intro ds vs h;exact ⟨ds,vs,h,.refl _⟩
 |cons x p ih=>
  intro ds vs h
  cases h with
  |cons h r t=>
   obtain ⟨Gw,LJ,t',p'⟩:=ih t
   exact ⟨_,_,.cons h r t',p'.cons _⟩
 |swap x y l=>
  intro ds vs h
  cases h with
  |cons h r t=>
   cases t with
   |cons h2 r2 t2=>exact ⟨_,_,.cons h2 r2 (.cons h r t2),.swap ..⟩
 |trans p1 p2 i1 i2=>
  intro ds vs h
  obtain ⟨Gw,LJ,t',p'⟩:=i2 h
  obtain ⟨x9,dP,t2,vB⟩:=i1 t'
  exact ⟨x9,dP,t2,vB.trans p'⟩
theorem RA {X:Cx} {pins:List (Addr×Obj)} {σ:St} {H:Hp} {s:Shared} (I:Inv X pins σ H s) {g:Dat->List Int} {ds:List Dat} {vs:List V} {us:List Value} (h:Tri X.K H ds vs us) (pl:∀d∈ds,AG 8 d=true):us.map (fun u=>g (By s.heap u))=ds.map g:=by
 induction h with
 |nil=>rfl
 |cons h r t ih=>
  rw [List.map_cons,List.map_cons,ih fun d hd=>pl d (List.mem_cons_of_mem _ hd)]
  have p:=pl _ (List.mem_cons_self ..)
  rw [Bs p (h.at I p r)]
section
variable {X:Cx}{ρ:Rho}{G:Gs}{e a b c:Expr}{d d1 d2:Dat}{ds l m:List Dat}{pos:Pos}
theorem Np (g:Dat->List Int) (ds:List Dat) (O:OrdL g ds) (hu:X.A.units+20<cLine):C2 X (.builtin "sorted") (fun xs H Q=>∃p vs H0,xs=[.ref p]/\SqL X.K H p vs/\Same H0 H/\RepL X.K H0 ds vs ∧
  ∀q Gw LJ,H q=none->RepL X.K H0 Gw LJ->Gw.Perm ds->(Gw.map g).Pairwise (fun x y=>HT.lexLt y x=false)->Q (.ref q) (upd H q (.lst LJ))):=by
 intro pins s σ H xs us Q I r h
 obtain ⟨p,vs,H0,rfl,hq,rE,rd,q⟩:=h
 obtain ⟨u,rfl,rx⟩:=HU r
 cases rx
 obtain ⟨its,r',pl,hz⟩:=I.list hq
 have T:=VI rd r'
 have hlen:vs.length=its.length:=r'.length
 have ra:AtL s.heap ds its:=(rd.same rE).at I (by rw [List.all_eq_true];exact O.pl) r'
 refine Calls.call_function_entry kind_sorted plain_sorted entry_sorted (args_sorted1 _) ?_
 unfold Builtin.«sorted»
 refine wpAny_bind (m:=checkCount "sorted" 1 1 _) (wpAny_pure ?_)
 refine wpAny_bind (collect_list pl.isList ?_ (by lia))
 refine wpAny_bind (wpAny_newList ?_ (by lia))
 have hsz:((s.heap.push (seqObj "list" #[] 0)).update s.heap.objs.size (Obj.mapSeq (·++its.toArray))).objs.size=s.heap.objs.size+1:=by
  rw [Heap.size_update,size_push']
 have SD:(((s.heap.push (seqObj "list" #[] 0)).update s.heap.objs.size (Obj.mapSeq (·++its.toArray))).push (seqObj "list" its.toArray 0)).get? (s.heap.objs.size+1)=some (seqObj "list" its.toArray 0):=by
  rw [<-hsz];exact Heap.get?_push_size _ rfl
 have keep:∀b o,s.heap.get? b=some o->(((s.heap.push (seqObj "list" #[] 0)).update s.heap.objs.size (Obj.mapSeq (·++its.toArray))).push (seqObj "list" its.toArray 0)).get? b=some o:=fun b o e=>by
  have A4:b<s.heap.objs.size:=Heap.lt_size e
  rw [Heap.get?_push_ne _ _ _ (by rw [hsz];exact Nat.ne_of_lt (Nat.lt_succ_of_lt A4)),Heap.get?_update_ne _ _ _ _ (Nat.ne_of_lt A4),Heap.get?_push_ne _ _ _ (Nat.ne_of_lt A4)]
  exact e
 show wpAny _ _ _ _ _ { s with heap:=((s.heap.push (seqObj "list" #[] 0)).update s.heap.objs.size (Obj.mapSeq (·++its.toArray))).push (seqObj "list" its.toArray 0) }
 rw [hsz]
 refine wpAny_bind (wpAny_holding (wpAny_call_entry slot_list_sort ⟨_,SD,rfl⟩ entry_list_sort (Jx (g:=g) (ds:=ds) SD (ra.kept keep) (fun _ _ _ _=>trivial) (fun h' k=>ra.kept fun b o e=>k b o (Nat.ne_of_lt (Nat.lt_succ_of_lt (Heap.lt_size e))) (keep b o e)) O (by lia) (by show X.A.units+1+1+8<cLine;lia) fun out hp hs=>⟨_,rfl,?_⟩) (args_list_sort _)))
 refine wpAny_pure ⟨_,rfl,?_⟩
 obtain ⟨Gw,LJ,T',Y3⟩:=Pb hp T
 obtain ⟨bp,aB⟩:=T'.rep
 have dm:LJ.length≤sizeLine:=by
  have e1:=aB.length
  have e2:=hp.length_eq
  lia
 obtain ⟨ep,ay⟩:=sortedAll_at s.heap its out
 have bA:∀u∈out.toList,By (((s.heap.push (seqObj "list" #[] 0)).update s.heap.objs.size (Obj.mapSeq (·++its.toArray))).push (seqObj "list" its.toArray 0)) u=By s.heap u:=fun u IE=>by
  obtain ⟨d,hd,hr⟩:=ra.mem u (hp.mem_iff.mp IE)
  rw [Bs (O.pl d hd) hr,Bs (O.pl d hd) (hr.kept keep)]
 have Ts:(Gw.map g).Pairwise (fun x y=>HT.lexLt y x=false):=by
  rw [<-RA I (T'.same rE) (fun d hd=>O.pl d (Y3.mem_iff.mp hd))]
  have e:out.toList.map (fun u=>g (By s.heap u))=out.toList.map (fun u=>g (By (((s.heap.push (seqObj "list" #[] 0)).update s.heap.objs.size (Obj.mapSeq (·++its.toArray))).push (seqObj "list" its.toArray 0)) u)):=
   List.map_congr_left fun u IE=>by rw [bA u IE]
  rw [e]
  exact hs
 refine ⟨.ref (s.heap.objs.size+1),upd H (s.heap.objs.size+1) (.lst LJ),?_,rfl,q _ Gw LJ ?_ bp Y3 Ts⟩
 ·refine I.laid (t':=s.toks) (o:=.lst LJ) (fun b o e=>sortedAll_old e) (Nat.le_succ _) ?_
  exact ⟨dm,out.toList,ep,aB,by rw [Array.toArray_toList];exact ay⟩
 ·exact I.hok.fresh (Nat.le_succ _)
theorem TR {pp:Pos} (g:Dat->List Int) (hu:X.A.units+20<cLine) (hm:X.mg "sorted"=none) (ha:PX X ρ G a d1) (hl:d1=.lst l\/∃p,d1=.fn p/\G p=some (.lst l)) (O:OrdL g l) (hq:∀l',l'.Perm l->(l'.map g).Pairwise (fun x y=>HT.lexLt y x=false)->l'=m)
  (hg:Gl X "sorted":=by rfl) (he:starEach [a] X.env=(false,eval a X.env)::starEach [] X.env:=by rfl):PX X ρ G (.Call (.Name "sorted" pp) [a] [] pos) (.lst m):=
 Em (Np g l O hu) hg hm (by decide +kernel) ha (fun H x Q o r k=>by
  have:∃p vs,x=.ref p/\SqL X.K H p vs/\RepL X.K (hid H G) l vs:=by
   rcases hl with rfl|⟨p,rfl,hG⟩
   ·rw [Rep]at r
    obtain ⟨p,vs,e,h1,h2⟩:=r
    exact ⟨p,vs,e,SqL.of (AJ _ _ h1),h2⟩
   ·obtain ⟨vs,h1,h2⟩:=o p _ hG
    exact ⟨p,vs,r,SqL.of h1,h2⟩
  obtain ⟨p,vs,e,h1,h2⟩:=this
  refine ⟨p,vs,hid H G,by rw [e],h1,AJ,h2,fun q Gw LJ iC r' Xb Ts=>?_⟩
  obtain rfl:=hq Gw Xb Ts
  exact k _ _ (Dy o iC r')) (he:=he)
end
mutual
def flat:Dat->List Int
 |.int i=>[i]
 |.tup l=>Cb l
 |_=>[]
def Cb:List Dat->List Int
 |[]=>[]
 |d::r=>flat d++Cb r
end
abbrev lx:List Int->List Int->Bool:=HT.lexLt
theorem Zl (a b c:List Int):lx (a++b) (a++c)=lx b c:=by
 induction a with
 |nil=>rfl
 |cons x a ih=>show HT.lexLt (x::(a++b)) (x::(a++c))=_;rw [HT.lexLt_cons,if_pos rfl];exact ih
theorem ZU:∀{a a':List Int} (b c:List Int),a.length=a'.length->a≠a'->lx (a++b) (a'++c)=lx a a'
 |[],[],_,_,_,h=>absurd rfl h
 |[],_::_,_,_,h,_=>by simp at h
 |_::_,[],_,_,h,_=>by simp at h
 |x::a,y::a',b,c,hl,hn=>by
  show HT.lexLt (x::(a++b)) (y::(a'++c))=HT.lexLt (x::a) (y::a')
  rw [HT.lexLt_cons,HT.lexLt_cons]
  by_cases e:x=y
  ·subst e
   rw [if_pos rfl,if_pos rfl]
   exact ZU b c (by simpa using hl) fun z=>hn (by rw [z])
  ·rw [if_neg e,if_neg e]
structure FlD (c:Nat) (x y:Dat):Prop where
 lx:(flat x).length=c
 ly:(flat y).length=c
 eq:eqD x y=decide (flat x=flat y)
 lt:Bw true x y=TF.lx (flat x) (flat y)
theorem K9 {c:Nat} (hc:0<c):∀(l m:List Dat),(∀x∈l,∀y∈m,FlD c x y)->(∀x∈l,(flat x).length=c)->(∀y∈m,(flat y).length=c)->Bx true l m=lx (Cb l) (Cb m)/\eqL l m=decide (Cb l=Cb m)
 |[],[],_,_,_=>⟨rfl,rfl⟩
 |[],y::m,_,_,h2=>by
  have:=h2 y (List.mem_cons_self ..)
  have Co:Cb (y::m)≠[]:=by
   intro e
   rw [Cb]at e
   have:=congrArg List.length e
   simp at this
   simp [this]at *
   lia
  obtain ⟨z,t,e⟩:=List.exists_cons_of_ne_nil Co
  constructor
  ·rw [Bx,Cb,e];rfl
  ·rw [show eqL [] (y::m)=false from rfl,show Cb ([]:List Dat)=[]from rfl,e];rfl
 |x::l,[],_,h1,_=>by
  have:=h1 x (List.mem_cons_self ..)
  have Co:Cb (x::l)≠[]:=by
   intro e
   rw [Cb]at e
   have:=congrArg List.length e
   simp at this
   simp [this]at *
   lia
  obtain ⟨z,t,e⟩:=List.exists_cons_of_ne_nil Co
  constructor
  ·rw [Bx,e];rfl
  ·rw [show eqL (x::l) []=false from rfl,e];rfl
 |x::l,y::m,h,h1,h2=>by
  have F:=h x (List.mem_cons_self ..) y (List.mem_cons_self ..)
  obtain ⟨i1,i2⟩:=K9 hc l m (fun x hx y hy=>h x (List.mem_cons_of_mem _ hx) y (List.mem_cons_of_mem _ hy)) (fun x hx=>h1 x (List.mem_cons_of_mem _ hx)) fun y hy=>h2 y (List.mem_cons_of_mem _ hy)
  rw [Bx,eqL,Cb,Cb,F.eq,F.lt,i1,i2]
  by_cases e:flat x=flat y
  ·rw [decide_eq_true e,if_pos rfl,e]
   refine ⟨(Zl _ _ _).symm,?_⟩
   rw [Bool.true_and]
   simp
  ·rw [decide_eq_false e,if_neg (by decide)]
   refine ⟨(ZU _ _ (by rw [F.lx,F.ly]) e).symm,?_⟩
   rw [Bool.false_and]
   refine (decide_eq_false fun z=>e ?_).symm
   exact (List.append_inj z (by rw [F.lx,F.ly])).1
theorem RQ {c k:Nat} (hc:0<c) {l m:List Dat} (h:∀x∈l,∀y∈m,FlD c x y) (h1:∀x∈l,(flat x).length=c) (h2:∀y∈m,(flat y).length=c) (Mx:(Cb l).length=k) (Dr:(Cb m).length=k):FlD k (.tup l) (.tup m):=by
 obtain ⟨i1,i2⟩:=K9 hc l m h h1 h2
 exact ⟨by rw [flat];exact Mx,by rw [flat];exact Dr,by rw [eqD,flat,flat];exact i2,by rw [Bw,flat,flat];exact i1⟩
theorem X0 (i j:Int):FlD 1 (.int i) (.int j):=by
 refine ⟨rfl,rfl,?_,?_⟩
 ·simp only [eqD,flat]
  rw [Bool.eq_iff_iff];simp
 ·rw [Bw,flat,flat]
  show _=HT.lexLt [i] [j]
  rw [HT.lexLt_cons]
  by_cases e:i=j
  ·subst e;simp;rfl
  ·rw [if_neg e];rfl
theorem Qb (p q:Sq):FlD 2 (sq p) (sq q):=by
 refine RQ (c:=1) (by decide) ?_ ?_ ?_ rfl rfl
 ·intro x hx y hy
  simp only [List.mem_cons,List.not_mem_nil,or_false]at hx hy
  rcases hx with rfl|rfl<;>rcases hy with rfl|rfl<;>exact X0 _ _
 ·intro x hx
  simp only [List.mem_cons,List.not_mem_nil,or_false]at hx
  rcases hx with rfl|rfl<;>rfl
 ·intro x hx
  simp only [List.mem_cons,List.not_mem_nil,or_false]at hx
  rcases hx with rfl|rfl<;>rfl
theorem EI (p q:Sq×Sq):FlD 4 (Ap p) (Ap q):=by
 refine RQ (c:=2) (by decide) ?_ ?_ ?_ rfl rfl
 ·intro x hx y hy
  simp only [List.mem_cons,List.not_mem_nil,or_false]at hx hy
  rcases hx with rfl|rfl<;>rcases hy with rfl|rfl<;>exact Qb _ _
 ·intro x hx
  simp only [List.mem_cons,List.not_mem_nil,or_false]at hx
  rcases hx with rfl|rfl<;>rfl
 ·intro x hx
  simp only [List.mem_cons,List.not_mem_nil,or_false]at hx
  rcases hx with rfl|rfl<;>rfl
abbrev Ck:=Sq×Sq
abbrev Lay:=List Ck
def lay (L:Lay):Dat:=.tup (L.map Ap)
theorem SM (L M:Lay):Bw true (lay L) (lay M)=lx (flat (lay L)) (flat (lay M))/\eqD (lay L) (lay M)=decide (flat (lay L)=flat (lay M)):=by
 have:=K9 (c:=4) (by decide) (L.map Ap) (M.map Ap) (fun x hx y hy=>by
  obtain ⟨p,_,rfl⟩:=List.mem_map.mp hx
  obtain ⟨q,_,rfl⟩:=List.mem_map.mp hy
  exact EI p q) (fun x hx=>by obtain ⟨p,_,rfl⟩:=List.mem_map.mp hx;rfl) fun x hx=>by obtain ⟨p,_,rfl⟩:=List.mem_map.mp hx;rfl
 simp only [lay,Bw,eqD,flat]
 exact this
theorem Ta {p q:Ck} (h:Ap p=Ap q):p=q:=by
 obtain ⟨a,b⟩:=p
 obtain ⟨c,d⟩:=q
 simp only [Ap,Dat.tup.injEq,List.cons.injEq,and_true]at h
 rw [Gj h.1,Gj h.2]
theorem OH {p q:Sq} (h:flat (sq p)=flat (sq q)):p=q:=by
 obtain ⟨a,b⟩:=p
 obtain ⟨c,d⟩:=q
 simp [sq,flat,Cb]at h
 rw [h.1,h.2]
theorem FK {p q:Ck} (h:flat (Ap p)=flat (Ap q)):p=q:=by
 obtain ⟨⟨a,b⟩,a',b'⟩:=p
 obtain ⟨⟨c,d⟩,c',d'⟩:=q
 simp [Ap,sq,flat,Cb]at h
 obtain ⟨rfl,rfl,rfl,rfl⟩:=h
 rfl
theorem Ho:∀{L M:Lay},flat (lay L)=flat (lay M)->L=M
 |[],[],_=>rfl
 |[],_::_,h=>by simp [lay,flat,Cb,Ap,sq]at h
 |_::_,[],h=>by simp [lay,flat,Cb,Ap,sq]at h
 |p::L,q::M,h=>by
  have h':flat (Ap p)++flat (lay L)=flat (Ap q)++flat (lay M):=h
  obtain ⟨h1,h2⟩:=List.append_inj h' (by rw [(EI p q).lx,(EI p q).ly])
  rw [FK h1,Ho h2]
structure TyD (α:Type) where
 f:α->Dat
 inj:∀{x y},flat (f x)=flat (f y)->x=y
 lt:∀x y,Bw true (f x) (f y)=lx (flat (f x)) (flat (f y))
 eq:∀x y,eqD (f x) (f y)=decide (flat (f x)=flat (f y))
 pl:∀x,AG 8 (f x)=true
 ord:∀x y,B6 8 (f x) (f y)=true
section
variable {α:Type}(T:TyD α)
def TyD.le (x y:α):Bool:=!lx (flat (T.f y)) (flat (T.f x))
def TyD.lt' (x y:α):Prop:=lx (flat (T.f x)) (flat (T.f y))=true
def TyD.sort (l:List α):List α:=l.mergeSort T.le
theorem TyD.sort_perm (l:List α):(T.sort l).Perm l:=List.mergeSort_perm l _
theorem TyD.le_trans (x y z:α) (h1:T.le x y=true) (h2:T.le y z=true):T.le x z=true:=by
 unfold TyD.le at *
 simp only [Bool.not_eq_true']at *
 cases e:lx (flat (T.f z)) (flat (T.f x))with
 |false=>rfl
 |true=>
  rcases Wf (b:=flat (T.f y)) e with q|q
  ·rw [show lx=HT.lexLt from rfl]at h2;rw [h2]at q;cases q
  ·rw [show lx=HT.lexLt from rfl]at h1;rw [h1]at q;cases q
theorem TyD.le_total (x y:α):(T.le x y||T.le y x)=true:=by
 unfold TyD.le
 cases e:lx (flat (T.f y)) (flat (T.f x))with
 |false=>rfl
 |true=>
  cases e2:lx (flat (T.f x)) (flat (T.f y))with
  |false=>rfl
  |true=>
   have:=Hc e e2
   rw [IZ]at this
   cases this
theorem TyD.sort_sorted (l:List α):(T.sort l).Pairwise fun x y=>T.le x y=true:=List.pairwise_mergeSort T.le_trans T.le_total l
theorem TyD.uniq:∀{l m:List α},l.Perm m->l.Pairwise (fun x y=>T.le x y=true)->m.Pairwise (fun x y=>T.le x y=true)->l=m
 |[],m,p,_,_=>by rw [List.nil_perm.mp p]
 |x::l,[],p,_,_=>by have:=p.length_eq;simp at this
 |x::l,y::m,p,h1,h2=>by
  obtain ⟨a1,a2⟩:=List.pairwise_cons.mp h1
  obtain ⟨b1,b2⟩:=List.pairwise_cons.mp h2
  have xq:x=y:=by
   have hx:x∈y::m:=p.mem_iff.mp (List.mem_cons_self ..)
   have hy:y∈x::l:=p.mem_iff.mpr (List.mem_cons_self ..)
   rcases List.mem_cons.mp hx with e|hx
   ·exact e
   rcases List.mem_cons.mp hy with e|hy
   ·exact e.symm
   have q1:=a1 y hy
   have q2:=b1 x hx
   unfold TyD.le at q1 q2
   simp only [Bool.not_eq_true']at q1 q2
   exact T.inj (Fn q2 q1)
  subst xq
  rw [TyD.uniq (List.perm_cons _ |>.mp p) a2 b2]
end
theorem WQ {α:Type} (T:TyD α) (l:List α) (one:(∀x,∃i r,T.f x=.tup (.int i::r))\/∀x,x∈l->∃k r,T.f x=.tup (.tup k::r)):OrdL flat (l.map T.f):=by
 refine ⟨fun x hx y hy=>?_,fun x hx y hy=>?_,fun x hx=>?_,fun x hx=>?_,?_⟩
 ·obtain ⟨p,_,rfl⟩:=List.mem_map.mp hx;obtain ⟨q,_,rfl⟩:=List.mem_map.mp hy;exact T.lt p q
 ·obtain ⟨p,_,rfl⟩:=List.mem_map.mp hx;obtain ⟨q,_,rfl⟩:=List.mem_map.mp hy;exact T.ord p q
 ·obtain ⟨p,_,rfl⟩:=List.mem_map.mp hx;exact T.pl p
 ·obtain ⟨p,hp,rfl⟩:=List.mem_map.mp hx
  rcases one with o|o
  ·obtain ⟨i,r,e⟩:=o p;exact ⟨_,_,e⟩
  ·obtain ⟨i,r,e⟩:=o p hp;exact ⟨_,_,e⟩
 ·rcases one with o|o
  ·exact .inl fun x hx=>by obtain ⟨p,_,rfl⟩:=List.mem_map.mp hx;exact o p
  ·exact .inr fun x hx=>by obtain ⟨p,hp,rfl⟩:=List.mem_map.mp hx;exact o p hp
theorem N3 {α:Type} (f:α->Dat):∀{l':List Dat} {l:List α},l'.Perm (l.map f)->∃m:List α,l'=m.map f/\m.Perm l:=by
 intro l' l p
 have:∀{a b:List Dat},a.Perm b->∀l:List α,b=l.map f->∃m:List α,a=m.map f/\m.Perm l:=by
  intro a b p
  induction p with
  |nil=>intro l e;exact ⟨[],rfl,by cases l with|nil=>exact .refl _|cons _ _=>simp at e⟩
  |cons x p ih=>
   intro l e
   cases l with
   |nil=>simp at e
   |cons y l=>
    rw [List.map_cons]at e
    obtain ⟨rfl,e2⟩:=List.cons.inj e
    obtain ⟨m,h1,h2⟩:=ih l e2
    exact ⟨y::m,by rw [h1];rfl,h2.cons _⟩
  |swap x y r=>
   intro l e
   match l,e with
   |y'::x'::l,e=>
    simp only [List.map_cons,List.cons.injEq]at e
    obtain ⟨rfl,rfl,rfl⟩:=e
    exact ⟨x'::y'::l,rfl,.swap ..⟩
   |[],e=>simp at e
   |[_],e=>simp at e
  |trans p1 p2 i1 i2=>
   intro l e
   obtain ⟨m,h1,h2⟩:=i2 l e
   obtain ⟨m2,h3,h4⟩:=i1 m h1
   exact ⟨m2,h3,h4.trans h2⟩
 exact this p l rfl
section
variable {X:Cx}{ρ:Rho}{G:Gs}{a:Expr}{d1:Dat}{pos:Pos}
theorem EU {α:Type} (T:TyD α) (l:List α) {pp:Pos} (hu:X.A.units+20<cLine) (hm:X.mg "sorted"=none) (ha:PX X ρ G a d1) (hl:d1=.lst (l.map T.f)\/∃p,d1=.fn p/\G p=some (.lst (l.map T.f))) (one:(∀x,∃i r,T.f x=.tup (.int i::r))\/∀x,x∈l->∃k r,T.f x=.tup (.tup k::r))
  (hg:Gl X "sorted":=by rfl) (he:starEach [a] X.env=(false,eval a X.env)::starEach [] X.env:=by rfl):PX X ρ G (.Call (.Name "sorted" pp) [a] [] pos) (.lst ((T.sort l).map T.f)):=
 TR flat hu hm ha hl (WQ T l one) (fun l' hp hs=>by
  obtain ⟨m,rfl,JP⟩:=N3 T.f hp
  rw [TyD.uniq T (JP.trans (T.sort_perm l).symm) ?_ (T.sort_sorted l)]
  rw [List.map_map,List.pairwise_map]at hs
  refine hs.imp fun {x y} h=>?_
  unfold TyD.le
  have:lx (flat (T.f y)) (flat (T.f x))=false:=h
  rw [this];rfl) hg he
end
def TSq:TyD Sq:=⟨sq,OH,fun x y=>(Qb x y).lt,fun x y=>(Qb x y).eq,fun x=>A7 x 7,fun _ _=>rfl⟩
theorem E6 (p:Ck):AG 8 (Ap p)=true:=by
 simp only [Ap,AG,List.all_cons,List.all_nil,Bool.and_true,Bool.and_eq_true]
 exact ⟨A7 _ 6,A7 _ 6⟩
def TSt:TyD Ck:=⟨Ap,FK,fun x y=>(EI x y).lt,fun x y=>(EI x y).eq,E6,fun _ _=>rfl⟩
theorem UP (L:Lay):AG 8 (lay L)=true:=by
 simp only [lay,AG,List.all_eq_true]
 intro x hx
 obtain ⟨p,_,rfl⟩:=List.mem_map.mp hx
 simp only [Ap,AG,List.all_cons,List.all_nil,Bool.and_true,Bool.and_eq_true]
 exact ⟨A7 _ 5,A7 _ 5⟩
theorem Xx (L M:Lay):B6 8 (lay L) (lay M)=true:=by
 simp only [lay,B6,List.all_eq_true]
 intro x hx
 have:=List.of_mem_zip (show (x.1,x.2)∈_ from hx)
 obtain ⟨p,_,e1⟩:=List.mem_map.mp this.1
 obtain ⟨q,_,e2⟩:=List.mem_map.mp this.2
 rw [<-e1,<-e2]
 rfl
def aG:TyD Lay:=⟨lay,Ho,fun x y=>(SM x y).1,fun x y=>(SM x y).2,UP,Xx⟩
theorem Jw {s:Shared} {A:Around} {n:Nat} (hu:A.units+1+n<cLine) {l m:List Dat} {is js:List Value} (hl:l.all (AG n)=true) (hm:m.all (AG n)=true) (rl:AtL s.heap l is) (rm:AtL s.heap m js) :
  ∀j (h1:j<is.toArray.size) (h2:j<js.toArray.size),SeqAt.EqAt A.in1 s is.toArray[j] js.toArray[j] ((fun j=>match l[j]?,m[j]? with|some x,some y=>eqD x y|_,_=>true) j):=by
 intro j h1 h2
 have YU:j<is.length:=by simpa using h1
 have Wy:j<js.length:=by simpa using h2
 have l1:j<l.length:=by rw [<-rl.length];exact YU
 have l2:j<m.length:=by rw [<-rm.length];exact Wy
 obtain ⟨u1,f1,q1⟩:=rl.get (List.getElem?_eq_getElem l1)
 obtain ⟨u2,f2,q2⟩:=rm.get (List.getElem?_eq_getElem l2)
 rw [List.getElem?_eq_getElem YU]at f1
 rw [List.getElem?_eq_getElem Wy]at f2
 cases f1
 cases f2
 have hx:AG n l[j]=true:=List.all_eq_true.mp hl _ (List.getElem_mem l1)
 have hy:AG n m[j]=true:=List.all_eq_true.mp hm _ (List.getElem_mem l2)
 have:=(IL (A:=A.in1) n hx hy q1 q2 hu).1
 simpa [List.getElem?_eq_getElem l1,List.getElem?_eq_getElem l2]using this
def Rc:Dat->Dat->Bool
 |.tup _,.tup _=>true
 |.lst _,.lst _=>true
 |.int _,.int _=>true
 |.str _,.str _=>true
 |.bl _,.bl _=>true
 |_,_=>false
theorem bf {s:Shared} {A:Around} {d e:Dat} {u v:Value} (ha:Rc d e=true) (hd:AG 9 d=true) (he:AG 9 e=true) (rd:AtH s.heap d u) (re:AtH s.heap e v) (hu:A.units+9<cLine):SeqAt.RcNeAt A s u v (!eqD d e):=by
 cases d<;>cases e<;>simp only [Rc,Bool.false_eq_true]at ha<;>rw [AtH]at rd re
 ·subst rd;subst re;simp only [eqD];exact SeqAt.RcNeAt.bool_bool _ _
 ·obtain ⟨t,rfl⟩:=rd;obtain ⟨t',rfl⟩:=re;simp only [eqD];exact SeqAt.RcNeAt.int_int _ _ _ _
 ·obtain ⟨t,rfl⟩:=rd;obtain ⟨t',rfl⟩:=re;simp only [eqD];exact SeqAt.RcNeAt.str_str _ _ _ _
 ·rename_i l m
  obtain ⟨a,is,rfl,ti,rl⟩:=rd
  obtain ⟨b,js,rfl,tj,rm⟩:=re
  have:=SeqAt.RcNeAt.tuples (A:=A) ti tj (by lia) (Jw (n:=8) (by lia) (by simpa [AG]using hd) (by simpa [AG]using he) rl rm)
  rw [eqD,EB]
  rw [List.size_toArray,List.size_toArray,rl.length,rm.length]at this
  exact this
 ·rename_i l m
  obtain ⟨a,is,rfl,ti,rl⟩:=rd
  obtain ⟨b,js,rfl,tj,rm⟩:=re
  have e1:is.toArray.size=l.length:=by rw [List.size_toArray,rl.length]
  have e2:js.toArray.size=m.length:=by rw [List.size_toArray,rm.length]
  rw [eqD,EB]
  by_cases hsz:l.length=m.length
  ·have:=SeqAt.RcNeAt.lists (A:=A) ti tj (by rw [e1,e2,hsz]) (by lia) (Jw (n:=8) (by lia) (by simpa [AG]using hd) (by simpa [AG]using he) rl rm)
   rw [e1]at this
   rw [hsz,Nat.min_self,beq_self_eq_true,Bool.and_true,<-hsz]
   exact this
  ·have:=SeqAt.RcNeAt.lists_lengths (A:=A) ti tj (by rw [e1,e2];simpa using hsz) (by lia)
   rw [show (l.length==m.length)=false by simpa using hsz,Bool.and_false]
   exact this
section
variable {X:Cx}{ρ:Rho}{G:Gs}{e a b c:Expr}{es:List Expr}{d d' d1 d2 d3 k:Dat}{ds l m:List Dat}{pos:Pos}{i j z:Int}{p:Addr}{D:DE}{rest body:List Stmt}
theorem bO (hu:X.A.units+9<cLine):OpR X (compareOp .NotEq) (fun x y H Q=>∃d e,Rep X.K H d x/\Rep X.K H e y/\Rc d e=true/\AG 9 d=true/\AG 9 e=true/\Q (.bl (!eqD d e)) H):=by
 intro pins s σ H x y v u Q I rx ry h
 obtain ⟨d,e,h1,h2,h3,h4,h5,q⟩:=h
 exact bf h3 h4 h5 (h1.at I h4 rx) (h2.at I h5 ry) hu _ _ _ _ ⟨.bl _,H,I,rfl,q⟩
theorem RT (st:Bool) (hu:X.A.units+9<cLine):OpR X (compareOp (fN st)) (fun x y H Q=>∃d e,Rep X.K H d x/\Rep X.K H e y/\B6 9 d e=true/\AG 9 d=true/\AG 9 e=true/\Q (.bl (Bw st d e)) H):=by
 intro pins s σ H x y v u Q I rx ry h
 obtain ⟨d,e,h1,h2,h3,h4,h5,q⟩:=h
 have:=Nd (A:=X.A) (s:=s) st 9 h3 h4 h5 (h1.at I h4 rx) (h2.at I h5 ry) hu X.prog X.w X.xe (EP X pins σ Q) ⟨.bl _,H,I,rfl,q⟩
 cases st with
 |true=>exact this
 |false=>exact this
theorem NF (hu:X.A.units+9<cLine) (ha:PX X ρ G a d1) (hb:PX X ρ G b d2) (h:Rc d1 d2=true) (p1:AG 9 d1=true) (p2:AG 9 d2=true):PXC X ρ G .NotEq a b (.bl (!eqD d1 d2)):=
 DB (bO hu) ha hb fun H x y Q o hx hy k=>⟨d1,d2,hx.same AJ,hy.same AJ,h,p1,p2,k _ _ (BL o rfl)⟩
theorem RY (hu:X.A.units+9<cLine) (ha:PX X ρ G a d1) (hb:PX X ρ G b d2) (h:B6 9 d1 d2=true) (p1:AG 9 d1=true) (p2:AG 9 d2=true):PXC X ρ G .Lt a b (.bl (Bw true d1 d2)):=
 DB (RT true hu) ha hb fun H x y Q o hx hy k=>⟨d1,d2,hx.same AJ,hy.same AJ,h,p1,p2,k _ _ (BL o rfl)⟩
theorem Wu (hu:X.A.units+9<cLine) (ha:PX X ρ G a d1) (hb:PX X ρ G b d2) (h:B6 9 d1 d2=true) (p1:AG 9 d1=true) (p2:AG 9 d2=true):PXC X ρ G .LtE a b (.bl (Bw false d1 d2)):=
 DB (RT false hu) ha hb fun H x y Q o hx hy k=>⟨d1,d2,hx.same AJ,hy.same AJ,h,p1,p2,k _ _ (BL o rfl)⟩
theorem Wz {Q:Dat->Gs->Prop} (ha:PX X ρ G a (.lst l)) (hb:WE X ρ G b fun d G'=>∃m,d=.lst m/\l.length+m.length≤sizeLine/\Q (.lst (l++m)) G'):WE X ρ G (.BinOp a .Add b pos) Q:=
 Ba (Y6 Ut Ak Ak) fun σ H S=>⟨ρ,G,_,ha,S,fun x H1 ⟨_,_,e1,o1,r1,q1,Bp⟩=>by
  subst q1;subst Bp
  refine ⟨ρ,_,_,hb,S.ext e1 o1,fun y H2 ⟨d2,G2,e2,o2,r2,m,hm,hz,q⟩=>?_⟩
  subst hm
  have Y4:=r1.same e2.hid
  rw [Rep]at Y4 r2
  obtain ⟨p1,bP,rfl,h1,s1⟩:=Y4
  obtain ⟨p2,dP,rfl,h2,s2⟩:=r2
  refine ⟨p1,p2,bP,dP,rfl,rfl,AJ _ _ h1,AJ _ _ h2,by rw [s1.length,s2.length];exact hz,fun t ht=>?_⟩
  have E3:Ext H2 G2 (upd H2 t (.lst (bP++dP))) G2:=Ext.alloc ht
  refine ⟨.lst (l++m),G2,(e1.trans e2).trans E3,o2.alloc ht,?_,q⟩
  rw [Rep]
  exact ⟨t,bP++dP,rfl,EX (o2.free ht) Ar,(s1.append s2).same E3.hid⟩⟩
end
section
variable {X:Cx}{ρ:Rho}{G:Gs}{elt target iter c:Expr}{scope:Scope}{Ae:Pos}{Nc:List Str}{caps:List (Option Nat)}{l:List Dat}{f:Dat->Rho->Option Rho}
theorem PY (g:Dat->Dat) (R:Gs->Prop) {Q:Dat->Gs->Prop} (Sc:CompSc X scope Nc caps) (B9:X.calm=true) (hi:WI X ρ G target iter fun l' G'=>l'=l/\R G')
  (hg:∀C s' H' fp,PGD (Aa X Nc scope C s' H' fp) target f) (hle:∀d ρ',f d (Bb caps ρ)=some ρ'->ρ'.length=(Bb caps ρ).length/\∀(j:Nat) e,(Bb caps ρ)[j]?=some (some e)->ρ'[j]?=some (some e)) (hz:l.length<sizeLine)
  (DW:∀C s' H' fp G' d,d∈l->∃ρ',f d (Bb caps ρ)=some ρ'/\PX (Aa X Nc scope C s' H' fp) ρ' G' elt (g d)) (hQ:∀G',R G'->Q (.lst (l.map g)) G') (WW:∀x,foldedSetIterable iter X.env x=pure x:=by intro _;rfl) :
  WE X ρ G (.ListComp elt [⟨target,iter,[],0⟩] scope Ae) Q:=by
 refine NZ (Pv:=fun i acc G'=>R G'/\acc=(l.take i).map g) (LM elt target iter scope Ae) Sc B9 (fun pins s σ H I S=>thn (hi pins s σ H I S) fun v s1 h1=>thn h1 fun gC s2 hh=>by obtain ⟨it,fp,tn,J,H',e,I',T,st,fk,l',G',e',o',wk,q1,q2⟩:=hh;exact ⟨it,fp,tn,J,H',e,I',T,st,fk,l',G',e',o',wk,q1,q2,by simp⟩) hg hle (Nat.le_of_lt hz) ?_ ?_ WW
 ·rintro C s' H' fp Dd i d acc G' hd ⟨hR,rfl⟩ hD
  obtain ⟨ρ',h1,h2⟩:=DW C s' H' fp (put G' Dd (.lst ((l.take i).map g))) d (List.mem_of_getElem? hd)
  refine ⟨ρ',h1,Ea rfl AL ?_ (PX.we h2 ⟨AL,_,G',?_,hD,BQ,hR,?_⟩)⟩
  ·have:((l.take i).map g).length≤l.length:=by rw [List.length_map,List.length_take];lia
   lia
  ·simp
  ·rw [List.take_add_one,hd]
   simp
 ·rintro acc G' ⟨hR,rfl⟩
  rw [List.take_length]
  exact hQ G' hR
end
def Cq (F:List Sq) (z o:Sq):List Sq:=F.filter fun x=>!decide (x=z)&&!decide (x=o)
def AS (F:List Sq):Sq:=F.getLastD (0,0)
def C3 (F:List Sq) (z:Sq):List Sq:=(nbM z).filter F.contains
def D5:Nat->List Sq->List Lay
 |0,F=>if F=[]then [[]]else []
 |n+1,F=>if F=[]then [[]]else (C3 F (AS F)).flatMap fun o=>(D5 n (Cq F (AS F) o)).map (·++[(o,AS F)])
def BE (F:List Sq):List Lay:=D5 F.length F
theorem Er {F:List Sq} (h:F≠[]):AS F∈F:=by
 unfold AS
 rw [List.getLastD_eq_getLast?,List.getLast?_eq_some_getLast h]
 exact List.getLast_mem h
theorem Ng {F:List Sq} (h:F≠[]) (o:Sq):(Cq F (AS F) o).length<F.length:=by
 unfold Cq
 refine List.length_filter_lt_length_iff_exists.mpr ⟨_,Er h,by simp⟩
theorem MV:∀(n m:Nat) (F:List Sq),F.length≤n->F.length≤m->D5 n F=D5 m F
 |0,0,F,_,_=>rfl
 |0,m+1,F,h,_=>by
  have:F=[]:=List.length_eq_zero_iff.mp (by lia)
  subst this;rfl
 |n+1,0,F,_,h=>by
  have:F=[]:=List.length_eq_zero_iff.mp (by lia)
  subst this;rfl
 |n+1,m+1,F,h1,h2=>by
  unfold D5
  split
  ·rfl
  ·rename_i Co
   have:∀o,D5 n (Cq F (AS F) o)=D5 m (Cq F (AS F) o):=fun o=>MV n m _ (by have:=Ng Co o;lia) (by have:=Ng Co o;lia)
   simp only [this]
theorem Cu:BE []=[[]]:=rfl
theorem GD {F:List Sq} (h:F≠[]):BE F=(C3 F (AS F)).flatMap fun o=>(BE (Cq F (AS F) o)).map (·++[(o,AS F)]):=by
 unfold BE
 obtain ⟨n,hn⟩:∃n,F.length=n+1:=⟨F.length-1,by have:=List.length_pos_iff.mpr h;lia⟩
 rw [hn]
 conv=>lhs;unfold D5
 rw [if_neg h]
 have:∀o,D5 n (Cq F (AS F) o)=D5 (Cq F (AS F) o).length (Cq F (AS F) o):=fun o=>MV _ _ _ (by have:=Ng h o;lia) (Nat.le_refl _)
 simp only [this]
def AM (l:Lay):List Sq:=l.flatMap fun s=>[s.1,s.2]
structure Cov (F:List Sq) (l:Lay):Prop where
 st:∀s∈l,A1 s.1 s.2/\s.2∈nbM s.1
 pm:(AM l).Perm F
theorem DK {l:Lay} {x:Sq}:x∈AM l↔∃s∈l,x=s.1\/x=s.2:=by
 unfold AM
 simp [List.mem_flatMap]
theorem OR {l m:Lay} (h:l.Perm m):(AM l).Perm (AM m):=h.flatMap_right _
theorem SA {a b:Sq} (h:a∈nbM b):b∈nbM a:=by
 obtain ⟨a1,a2⟩:=a
 obtain ⟨b1,b2⟩:=b
 simp only [nbM,List.mem_cons,List.not_mem_nil,or_false,Prod.mk.injEq]at *
 rcases h with ⟨h1,h2⟩|⟨h1,h2⟩|⟨h1,h2⟩|⟨h1,h2⟩<;>subst h1 h2
 ·exact .inr (.inr (.inr ⟨(Int.sub_add_cancel _ _).symm,rfl⟩))
 ·exact .inr (.inr (.inl ⟨rfl,(Int.sub_add_cancel _ _).symm⟩))
 ·exact .inr (.inl ⟨rfl,(Int.add_sub_cancel _ _).symm⟩)
 ·exact .inl ⟨(Int.add_sub_cancel _ _).symm,rfl⟩
theorem OK {a b:Sq} (h:a∈nbM b):a≠b:=by
 rintro rfl
 obtain ⟨a1,a2⟩:=a
 simp only [nbM,List.mem_cons,List.not_mem_nil,or_false,Prod.mk.injEq]at h
 lia
theorem J0 {F:List Sq} (up:F.Pairwise A1) {x:Sq} (hx:x∈F):x=AS F\/A1 x (AS F):=by
 have h:F≠[]:=List.ne_nil_of_mem hx
 unfold AS
 rw [List.getLastD_eq_getLast?,List.getLast?_eq_some_getLast h,Option.getD_some]
 rw [<-List.dropLast_concat_getLast h]at hx up
 rcases List.mem_append.mp hx with h1|h1
 ·right
  exact (List.pairwise_append.mp up).2.2 x h1 _ (by simp)
 ·left;simpa using h1
theorem MX {F:List Sq} (up:F.Pairwise A1):F.Nodup:=up.imp fun {a b} M8 e=>by subst e;exact Ax _ M8
theorem NX {F:List Sq} {z o x:Sq}:x∈Cq F z o↔x∈F/\x≠z/\x≠o:=by simp [Cq]
theorem KW {F:List Sq} (nd:F.Nodup) {z o:Sq} (hz:z∈F) (ho:o∈F) (Co:o≠z):(o::z::Cq F z o).Perm F:=by
 rw [List.perm_ext_iff_of_nodup _ nd]
 ·intro x
  simp only [List.mem_cons,NX]
  by_cases h1:x=o
  ·subst h1;simp [ho]
  ·by_cases h2:x=z
   ·subst h2;simp [hz]
   ·simp [h1,h2]
 ·refine List.nodup_cons.mpr ⟨?_,List.nodup_cons.mpr ⟨?_,nd.sublist List.filter_sublist⟩⟩
  ·simp only [List.mem_cons,NX];rintro (h|h)
   ·exact Co h
   ·exact h.2.2 rfl
  ·simp [NX]
theorem HC {F:List Sq} (up:F.Pairwise A1) (z o:Sq):(Cq F z o).Pairwise A1:=up.sublist List.filter_sublist
theorem Fc {F:List Sq} {z o:Sq}:o∈C3 F z↔o∈nbM z/\o∈F:=by simp [C3]
theorem FU {F:List Sq} (up:F.Pairwise A1) {o:Sq} (h:F≠[]) (ho:o∈C3 F (AS F)):(Cq F (AS F) o).length+2=F.length:=by
 obtain ⟨h1,h2⟩:=Fc.mp ho
 have:=(KW (MX up) (Er h) h2 (OK h1)).length_eq
 simpa using this
theorem Mz (l m:Lay):AM (l++m)=AM l++AM m:=by simp [AM]
theorem GF:∀(n:Nat) {F:List Sq},F.length≤n->F.Pairwise A1->∀r∈BE F,Cov F r:=by
 intro n
 induction n with
 |zero=>
  intro F hl up r hr
  have:F=[]:=List.length_eq_zero_iff.mp (by lia)
  subst this
  rw [Cu,List.mem_singleton]at hr
  subst hr
  exact ⟨by simp,.refl _⟩
 |succ n ih=>
  intro F hl up r hr
  by_cases h:F=[]
  ·subst h
   rw [Cu,List.mem_singleton]at hr
   subst hr
   exact ⟨by simp,.refl _⟩
  rw [GD h,List.mem_flatMap]at hr
  obtain ⟨o,ho,hr⟩:=hr
  obtain ⟨r',xu,rfl⟩:=List.mem_map.mp hr
  have SW:=FU up h ho
  obtain ⟨h1,h2⟩:=Fc.mp ho
  have C:=ih (by lia) (HC up _ _) r' xu
  refine ⟨fun s hs=>?_,?_⟩
  ·rcases List.mem_append.mp hs with hs|hs
   ·exact C.st s hs
   ·rw [List.mem_singleton.mp hs]
    refine ⟨?_,SA h1⟩
    rcases J0 up h2 with e|e
    ·exact absurd e (OK h1)
    ·exact e
  ·rw [Mz]
   show (AM r'++[o,AS F]).Perm F
   exact (List.perm_append_comm.trans (C.pm.append_left [o,AS F])).trans (KW (MX up) (Er h) h2 (OK h1))
theorem TY:∀(n:Nat) {F:List Sq} {l:Lay},F.length≤n->F.Pairwise A1->Cov F l->∃r∈BE F,r.Perm l:=by
 intro n
 induction n with
 |zero=>
  intro F l hl up C
  have:F=[]:=List.length_eq_zero_iff.mp (by lia)
  subst this
  have:=C.pm.length_eq
  cases l with
  |nil=>exact ⟨[],by simp [Cu],.refl _⟩
  |cons s l=>simp [AM]at this
 |succ n ih=>
  intro F l hl up C
  by_cases h:F=[]
  ·subst h
   have:=C.pm.length_eq
   cases l with
   |nil=>exact ⟨[],by simp [Cu],.refl _⟩
   |cons s l=>simp [AM]at this
  obtain ⟨s,hs,he⟩:=DK.mp (C.pm.mem_iff.mpr (Er h))
  have aP:s.1∈F:=C.pm.mem_iff.mp (DK.mpr ⟨s,hs,.inl rfl⟩)
  have X4:s.2∈F:=C.pm.mem_iff.mp (DK.mpr ⟨s,hs,.inr rfl⟩)
  obtain ⟨slt,jD⟩:=C.st s hs
  have hz:s.2=AS F:=by
   rcases he with e|e
   ·rcases J0 up X4 with q|q
    ·exact q
    ·rw [e]at q;exact absurd (Dh slt q) (Ax _)
   ·exact e.symm
  have ho:s.1∈C3 F (AS F):=Fc.mpr ⟨hz▸SA jD,aP⟩
  have hp:l.Perm (s::l.erase s):=List.perm_cons_erase hs
  have Nu:(s.1::s.2::AM (l.erase s)).Perm F:=by
   refine List.Perm.trans ?_ C.pm
   exact (OR hp).symm
  have SW:=FU up h ho
  have C':Cov (Cq F (AS F) s.1) (l.erase s):=by
   refine ⟨fun t ht=>C.st t (List.mem_of_mem_erase ht),?_⟩
   have:=Nu.trans (KW (MX up) (Er h) aP (OK (Fc.mp ho).1)).symm
   rw [hz]at this
   exact (List.perm_cons _).mp ((List.perm_cons _).mp this)
  obtain ⟨r,hr,n5⟩:=ih (by lia) (HC up _ _) C'
  refine ⟨r++[(s.1,AS F)],?_,?_⟩
  ·rw [GD h,List.mem_flatMap]
   exact ⟨s.1,ho,List.mem_map.mpr ⟨r,hr,rfl⟩⟩
  ·rw [show (s.1,AS F)=s by rw [<-hz]]
   exact (List.perm_append_comm.trans (n5.append_left [s])).trans hp.symm
theorem YW (F:List Sq) (z:Sq):(C3 F z).Nodup:=(VP z).sublist List.filter_sublist
theorem Ox {F:List Sq} (up:F.Pairwise A1):(C3 F (AS F)).length≤2:=by
 have hs:∀x∈C3 F (AS F),x∈[((AS F).1-1,(AS F).2),((AS F).1,(AS F).2-1)]:=by
  intro x hx
  obtain ⟨h1,h2⟩:=Fc.mp hx
  rcases J0 up h2 with e|e
  ·exact absurd e (OK h1)
  ·generalize AS F=z at *
   obtain ⟨x1,x2⟩:=x
   obtain ⟨z1,z2⟩:=z
   simp only [nbM,List.mem_cons,List.not_mem_nil,or_false,Prod.mk.injEq]at h1 ⊢
   have e':x1<z1\/(x1=z1/\x2<z2):=e
   clear e h2 hx
   rcases h1 with h1|h1|⟨h1,h3⟩|⟨h1,h3⟩
   ·exact .inl h1
   ·exact .inr h1
   ·lia
   ·lia
 have:=Og (YW F (AS F)) hs
 simpa using this
theorem IM:∀(n:Nat) {F:List Sq},F.length≤2*n->F.Pairwise A1->(BE F).length≤2 ^ n:=by
 intro n
 induction n with
 |zero=>
  intro F hl up
  have:F=[]:=List.length_eq_zero_iff.mp (by lia)
  subst this
  rw [Cu];exact Nat.le_refl _
 |succ n ih=>
  intro F hl up
  by_cases h:F=[]
  ·subst h;rw [Cu];exact Nat.one_le_two_pow
  rw [GD h,List.length_flatMap]
  have:∀(l:List Sq),(∀o∈l,o∈C3 F (AS F))->(l.map fun o=>((BE (Cq F (AS F) o)).map (·++[(o,AS F)])).length).sum≤l.length*2 ^ n:=by
   intro l
   induction l with
   |nil=>simp
   |cons o l gJ=>
    intro hm
    have h1:=gJ fun x hx=>hm x (List.mem_cons_of_mem _ hx)
    have SW:=FU up h (hm o (List.mem_cons_self ..))
    have h2:=ih (F:=Cq F (AS F) o) (by lia) (HC up _ o)
    rw [List.map_cons,List.sum_cons,List.length_map,List.length_cons,Nat.succ_mul]
    lia
  have h3:=this _ fun _ h=>h
  have h4:=Nat.mul_le_mul_right (2 ^ n) (Ox up)
  rw [Nat.pow_succ,Nat.mul_comm]
  lia
theorem OU (s t:Ck):lx (flat (Ap s)) (flat (Ap t))=decide (A1 s.1 t.1\/(s.1=t.1/\A1 s.2 t.2)):=by
 obtain ⟨⟨a,b⟩,c,d⟩:=s
 obtain ⟨⟨a',b'⟩,c',d'⟩:=t
 show HT.lexLt [a,b,c,d] [a',b',c',d']=_
 rw [HT.lexLt_cons,HT.lexLt_cons,HT.lexLt_cons,HT.lexLt_cons]
 have e0:HT.lexLt [] []=false:=rfl
 rw [e0,Bool.eq_iff_iff,decide_eq_true_iff]
 simp only [A1,Prod.mk.injEq]
 by_cases h1:a=a'<;>by_cases h2:b=b'<;>by_cases h3:c=c'<;>by_cases h4:d=d'<;>simp [h1,h2,h3,h4]<;>lia
theorem Za (s t:Sq):lx (flat (sq s)) (flat (sq t))=decide (A1 s t):=by
 obtain ⟨a,b⟩:=s
 obtain ⟨a',b'⟩:=t
 show HT.lexLt [a,b] [a',b']=_
 rw [HT.lexLt_cons,HT.lexLt_cons]
 have e0:HT.lexLt [] []=false:=rfl
 rw [e0,Bool.eq_iff_iff,decide_eq_true_iff]
 simp only [A1]
 by_cases h1:a=a'<;>by_cases h2:b=b'<;>simp [h1,h2]<;>lia
structure IsLay (F:List Sq) (l:Lay):Prop extends Cov F l where
 up:l.Pairwise fun s t=>A1 s.1 t.1
theorem Z0 {l:Lay} (h:(AM l).Nodup):l.Pairwise fun s t=>s.1≠t.1/\s.1≠t.2/\s.2≠t.1/\s.2≠t.2:=by
 unfold AM List.Nodup at h
 rw [List.pairwise_flatMap]at h
 refine h.2.imp fun {s t} h=>?_
 exact ⟨h _ (by simp) _ (by simp),h _ (by simp) _ (by simp),h _ (by simp) _ (by simp),h _ (by simp) _ (by simp)⟩
theorem Cov.perm {F:List Sq} {l m:Lay} (C:Cov F l) (h:m.Perm l):Cov F m:=⟨fun s hs=>C.st s (h.mem_iff.mp hs),(OR h).trans C.pm⟩
theorem Cov.lay {F:List Sq} {l:Lay} (C:Cov F l) (nd:F.Nodup):IsLay F (TSt.sort l):=by
 have C':=C.perm (TSt.sort_perm l)
 refine ⟨C',?_⟩
 have h1:=TSt.sort_sorted l
 have h2:=Z0 (C'.pm.nodup_iff.mpr nd)
 refine (h1.and h2).imp fun {s t} h=>?_
 obtain ⟨h1,h2,_⟩:=h
 unfold TyD.le at h1
 rw [show TSt.f=Ap from rfl,OU]at h1
 simp only [Bool.not_eq_true',decide_eq_false_iff_not,not_or,not_and]at h1
 rcases WZ s.1 t.1 with h|h|h
 ·exact h
 ·exact absurd h h2
 ·exact absurd h h1.1
theorem IsLay.sorted {F:List Sq} {l:Lay} (I:IsLay F l):l.Pairwise fun x y=>TSt.le x y=true:=I.up.imp fun {s t} h=>by
 unfold TyD.le
 rw [show TSt.f=Ap from rfl,OU]
 simp only [Bool.not_eq_true',decide_eq_false_iff_not,not_or,not_and]
 refine ⟨fun h'=>Ax _ (Dh h h'),fun e=>?_⟩
 rw [e]at h
 exact absurd h (Ax _)
theorem IsLay.uniq {F:List Sq} {l m:Lay} (I:IsLay F l) (J:IsLay F m) (h:l.Perm m):l=m:=TSt.uniq h I.sorted J.sorted
def Eh (F:List Sq):List Lay:=aG.sort ((BE F).map TSt.sort)
theorem Xr {F:List Sq} (up:F.Pairwise A1) {l:Lay}:l∈Eh F↔IsLay F l:=by
 unfold Eh
 rw [(aG.sort_perm _).mem_iff,List.mem_map]
 constructor
 ·rintro ⟨r,hr,rfl⟩
  exact (GF _ (Nat.le_refl _) up r hr).lay (MX up)
 ·intro I
  obtain ⟨r,hr,hp⟩:=TY _ (Nat.le_refl _) up I.toCov
  exact ⟨r,hr,((GF _ (Nat.le_refl _) up r hr).lay (MX up)).uniq I ((TSt.sort_perm r).trans hp)⟩
def PF (r:Lay):Dat:=.lst (r.map Ap)
def IG (l:List Lay):Dat:=.lst (l.map PF)
def ValidE (kvs:List (Dat×Dat)):Prop:=∀p∈kvs,∃F:List Sq,p.1=fl F/\p.2=IG (BE F)
theorem Qk (F:List Sq):CH 6 (fl F)=true:=by
 simp only [CH,fl]
 rw [List.all_eq_true]
 intro d hd
 obtain ⟨p,_,rfl⟩:=List.mem_map.mp hd
 rfl
theorem ValidE.look {kvs:List (Dat×Dat)} (h:ValidE kvs) {F:List Sq} {d:Dat} (e:A2 kvs (fl F)=some d):d=IG (BE F):=by
 unfold A2 at e
 obtain ⟨p,hp,rfl⟩:=Option.map_eq_some_iff.mp e
 have hm:=List.mem_of_find?_eq_some hp
 have hk:=List.find?_some hp
 have Dp:p.1=fl F:=of_decide_eq_true hk
 obtain ⟨F',h1,h2⟩:=h p hm
 rw [Dp]at h1
 rw [QE h1]
 exact h2
theorem ValidE.put {kvs:List (Dat×Dat)} (h:ValidE kvs) (F:List Sq):ValidE (GO kvs (fl F) (IG (BE F))):=by
 unfold GO
 intro p hp
 split at hp
 ·obtain ⟨x,hx,rfl⟩:=List.mem_map.mp hp
  by_cases e:x.1=fl F
  ·rw [if_pos e];exact ⟨F,e,rfl⟩
  ·rw [if_neg e];exact h x hx
 ·rcases List.mem_append.mp hp with hp|hp
  ·exact h p hp
  ·rw [List.mem_singleton.mp hp];exact ⟨F,rfl,rfl⟩
theorem Q7 (kvs:List (Dat×Dat)) (k v:Dat):A2 (GO kvs k v) k=some v:=by
 by_cases h:(A2 kvs k).isSome=true
 ·have:∀(kvs:List (Dat×Dat)),(A2 kvs k).isSome=true->A2 (kvs.map fun x=>if x.1=k then (x.1,v)else x) k=some v:=by
   intro kvs
   induction kvs with
   |nil=>intro h;simp [A2]at h
   |cons p r ih=>
    intro h
    by_cases e:p.1=k
    ·simp [A2,e]
    ·have h':(A2 r k).isSome=true:=by simpa [A2,e]using h
     have:=ih h'
     simpa [A2,e]using this
  unfold GO
  rw [if_pos h]
  exact this kvs h
 ·unfold GO
  rw [if_neg h]
  have hn:kvs.find? (fun x=>decide (x.1=k))=none:=by
   cases q:kvs.find? (fun x=>decide (x.1=k))with
   |none=>rfl
   |some p=>exact absurd (by simp [A2,q]) h
  simp [A2,List.find?_append,hn]
def Jb (n:Nat):SpD:=fun ds G R=>∃(F:List Sq) (kp:Addr) (kvs:List (Dat×Dat)),ds=[fl F,.fn kp]/\F.Pairwise A1/\F.length≤2*n/\n≤12/\G kp=some (.dct kvs)/\ValidE kvs/\kvs.length+2 ^ n≤2 ^ 12+1 ∧
 ∀DD,ValidE DD->DD.length+1≤kvs.length+2 ^ n->R (IG (BE F)) (put G kp (.dct DD))
def RW:SpD:=fun ds G R=>∃F:List Sq,ds=[fl F]/\F≠[]/\F.Pairwise A1/\F.length≤24/\R (.lst ((Eh F).map lay)) G
theorem Xi {F:List Sq} (h:F≠[]):atI (F.map sq) (-1)=some (sq (AS F)):=by
 refine Jp sq ?_
 unfold atI ixN
 have:0<F.length:=List.length_pos_iff.mpr h
 rw [if_neg (by lia),if_pos (by lia)]
 show F[((F.length:Int)+-1).toNat]?=_
 unfold AS
 rw [List.getLastD_eq_getLast?,List.getLast?_eq_getElem?]
 rw [show ((F.length:Int)+-1).toNat=F.length-1 by lia,List.getElem?_eq_getElem (by lia)]
 rfl
theorem IC {F:List Sq} {l:Lay} (C:Cov F l):2*l.length=F.length:=by
 rw [<-C.pm.length_eq]
 unfold AM
 rw [List.length_flatMap]
 clear C
 induction l with
 |nil=>rfl
 |cons a l ih=>rw [List.map_cons,List.sum_cons,List.length_cons,<-ih];simp;lia
def via {α β:Type} [Inhabited β] (h:α->Dat) (g:α->β) (d:Dat):β:=
 have:=Classical.propDecidable (∃x,h x=d)
 if e:∃x,h x=d then g e.choose else default
instance:Inhabited Dat:=⟨.non⟩
theorem Mi {α β:Type} [Inhabited β] {h:α->Dat} (inj:∀{x y},h x=h y->x=y) (g:α->β) (x:α):via h g (h x)=g x:=by
 unfold via
 have e:∃y,h y=h x:=⟨x,rfl⟩
 simp only [e,dif_pos]
 rw [inj e.choose_spec]
theorem Xj {α:Type} {h:α->Dat} (inj:∀{x y},h x=h y->x=y) (g:α->Dat) (l:List α):(l.map h).map (via h g)=l.map g:=by
 rw [List.map_map]
 exact List.map_congr_left fun x _=>Mi inj g x
theorem PR {α:Type} {h:α->Dat} (inj:∀{x y},h x=h y->x=y):∀{l m:List α},l.map h=m.map h->l=m
 |[],[],_=>rfl
 |[],_::_,h=>by simp at h
 |_::_,[],h=>by simp at h
 |p::l,q::m,h=>by
  simp only [List.map_cons,List.cons.injEq]at h
  rw [inj h.1,PR inj h.2]
theorem OW {r r':Lay} (h:PF r=PF r'):r=r':=by
 simp only [PF,Dat.lst.injEq]at h
 exact PR Ta h
abbrev PM:=List (Sq×Sq)
def lk (pm:PM) (x:Sq):Option Sq:=(pm.find? fun p=>decide (p.1=x)).map (·.2)
def pt (pm:PM) (x y:Sq):PM:=if (lk pm x).isSome then pm.map (fun p=>if p.1=x then (p.1,y)else p)else pm++[(x,y)]
def two (m:Sq->Option Sq) (s o:Sq):Sq->Option Sq:=fun z=>if z=o then some s else if z=s then some o else m z
def col (x:Sq):Int:=(x.1+x.2)%2
theorem WO (x y:Sq):Bw true (sq x) (sq y)=decide (A1 x y):=by
 have:=TSq.lt x y
 rw [show TSq.f=sq from rfl,Za]at this
 exact this
theorem ah {F:List Sq} {l:Lay} (C:Cov F l) {s:Ck} (hs:s∈l):s.1∈F/\s.2∈F:=⟨C.pm.mem_iff.mp (DK.mpr ⟨s,hs,.inl rfl⟩),C.pm.mem_iff.mp (DK.mpr ⟨s,hs,.inr rfl⟩)⟩
end TF
namespace TF
open PySem
def Lg (mask:Nat) (p:SetTable.Probe):SetTable.Probe:=
 if p.more > 0 then { p with j:=p.j+1,more:=p.more-1 }else
  { p with j:=(SetTable.leap mask p.i p.perturb).1,more:=SetTable.runEnd mask (SetTable.leap mask p.i p.perturb).1-(SetTable.leap mask p.i p.perturb).1,i:=(SetTable.leap mask p.i p.perturb).1,perturb:=(SetTable.leap mask p.i p.perturb).2 }
def HX (mask i perturb:Nat):SetTable.Probe:={ j:=i,more:=SetTable.runEnd mask i-i,i,perturb,dummy:=none }
def itr (mask:Nat):Nat->SetTable.Probe->SetTable.Probe
 |0,p=>p
 |m+1,p=>itr mask m (Lg mask p)
theorem HS (mask:Nat):∀(a b:Nat) (p:SetTable.Probe),itr mask (a+b) p=itr mask b (itr mask a p)
 |0,b,p=>by rw [Nat.zero_add];rfl
 |a+1,b,p=>by rw [Nat.succ_add];exact HS mask a b (Lg mask p)
theorem J1 (mask m:Nat) (p:SetTable.Probe):itr mask (m+1) p=Lg mask (itr mask m p):=by rw [HS mask m 1 p];rfl
theorem Si (mask:Nat) (p:SetTable.Probe):(Lg mask p).dummy=p.dummy:=by unfold Lg;split<;>rfl
theorem J4 (mask i perturb:Nat):∀r,r≤SetTable.runEnd mask i-i->itr mask r (HX mask i perturb)={ j:=i+r,more:=SetTable.runEnd mask i-i-r,i,perturb,dummy:=none }
 |0,_=>rfl
 |r+1,h=>by
  rw [J1,J4 mask i perturb r (by lia)]
  unfold Lg
  rw [if_pos (by show SetTable.runEnd mask i-i-r > 0;lia)]
  simp only [SetTable.Probe.mk.injEq,and_true]
  constructor<;>lia
theorem RL (mask i:Nat):SetTable.runEnd mask i-i≤9:=by unfold SetTable.runEnd;split<;>lia
theorem LQ (mask i perturb:Nat):itr mask (SetTable.runEnd mask i-i+1) (HX mask i perturb)=HX mask (SetTable.leap mask i perturb).1 (SetTable.leap mask i perturb).2:=by
 rw [J1,J4 mask i perturb _ (Nat.le_refl _)]
 unfold Lg
 rw [if_neg (by show ¬SetTable.runEnd mask i-i-(SetTable.runEnd mask i-i) > 0;lia)]
 rfl
def Bq (mask:Nat):Nat->Nat×Nat->Nat×Nat
 |0,p=>p
 |k+1,p=>SetTable.leap mask (Bq mask k p).1 (Bq mask k p).2
theorem KN (mask i perturb:Nat):∀k,∃m≤10*k,itr mask m (HX mask i perturb)=HX mask (Bq mask k (i,perturb)).1 (Bq mask k (i,perturb)).2
 |0=>⟨0,Nat.le_refl _,rfl⟩
 |k+1=>by
  obtain ⟨m,hm,e⟩:=KN mask i perturb k
  have hl:=RL mask (Bq mask k (i,perturb)).1
  refine ⟨m+(SetTable.runEnd mask (Bq mask k (i,perturb)).1-(Bq mask k (i,perturb)).1+1),by lia,?_⟩
  rw [HS,e,LQ]
  rfl
theorem Gg (mask i perturb:Nat):∀k,(Bq mask k (i,perturb)).2=perturb / 32 ^ k
 |0=>by simp [Bq]
 |k+1=>by
  show (Bq mask k (i,perturb)).2 / 32=_
  rw [Gg mask i perturb k,Nat.div_div_eq_div_mul,Nat.pow_succ]
def Hs (n i:Nat):Nat:=(i*5+1)%n
def C5 (n:Nat):Nat->Nat->Nat
 |0,i=>i
 |m+1,i=>Hs n (C5 n m i)
theorem Gn (mask i perturb:Nat) (hp:perturb<2 ^ 64):∀m,(Bq mask (13+m) (i,perturb)).1=C5 (mask+1) m (Bq mask 13 (i,perturb)).1
 |0=>rfl
 |m+1=>by
  have h0:(Bq mask (13+m) (i,perturb)).2=0:=by
   rw [Gg,Nat.div_eq_of_lt]
   refine Nat.lt_of_lt_of_le hp ?_
   rw [Nat.pow_add]
   have:0<32 ^ m:=Nat.pow_pos (by decide)
   exact Nat.le_trans (by decide:2 ^ 64≤32 ^ 13) (Nat.le_mul_of_pos_right _ this)
  show (SetTable.leap mask (Bq mask (13+m) (i,perturb)).1 (Bq mask (13+m) (i,perturb)).2).1=_
  rw [h0,Gn mask i perturb hp m]
  rfl
def Cyc (n:Nat):Prop:=∀i<n,∀j<n,∃m<n,C5 n m i=j
theorem Fx (n:Nat):∀(a b i:Nat),C5 n (a+b) i=C5 n a (C5 n b i)
 |0,b,i=>by rw [Nat.zero_add];rfl
 |a+1,b,i=>by
  rw [Nat.succ_add]
  show Hs n (C5 n (a+b) i)=Hs n (C5 n a (C5 n b i))
  rw [Fx n a b i]
theorem U0 {n:Nat} (h0:∀j<n,∃m<n,C5 n m 0=j) (hn:C5 n n 0=0):Cyc n:=fun i hi j hj=>by
 obtain ⟨a,ha,ea⟩:=h0 i hi
 obtain ⟨b,hb,eb⟩:=h0 j hj
 by_cases h:a≤b
 ·refine ⟨b-a,by lia,?_⟩
  rw [<-ea,<-Fx,Nat.sub_add_cancel h]
  exact eb
 ·refine ⟨b+n-a,by lia,?_⟩
  rw [<-ea,<-Fx,show b+n-a+a=b+n by lia,Fx,hn]
  exact eb
theorem mK:Cyc 8:=U0 (by decide +kernel) (by decide +kernel)
def Uv (n:Nat):Nat->Nat->List Nat
 |0,_=>[]
 |k+1,i=>i::Uv n k (Hs n i)
theorem JE (n:Nat):∀(m i:Nat),C5 n (m+1) i=C5 n m (Hs n i)
 |0,_=>rfl
 |m+1,i=>by
  show Hs n (C5 n (m+1) i)=Hs n (C5 n m (Hs n i))
  rw [JE n m i]
theorem ON (n:Nat):∀(k i j:Nat),j∈Uv n k i->∃m<k,C5 n m i=j
 |0,_,_,h=>by cases h
 |k+1,i,j,h=>by
  rcases List.mem_cons.mp h with e|h
  ·exact ⟨0,by lia,e.symm⟩
  ·obtain ⟨m,hm,e⟩:=ON n k (Hs n i) j h
   exact ⟨m+1,by lia,by rw [JE];exact e⟩
theorem L9 {n:Nat} (h:(List.range n).all (fun j=>(Uv n n 0).contains j)=true) (hn:C5 n n 0=0):Cyc n:=by
 refine U0 (fun j hj=>?_) hn
 rw [List.all_eq_true]at h
 have:=h j (List.mem_range.mpr hj)
 exact ON n n 0 j (by simpa using this)
theorem ZF:Cyc 32:=L9 (by decide +kernel) (by decide +kernel)
theorem Vn:Cyc 128:=L9 (by decide +kernel) (by decide +kernel)
theorem R9 (h:Int):SetTable.bits h<2 ^ 64:=by
 unfold SetTable.bits
 have h1:=Int.emod_nonneg h (show (2 ^ 64:Int)≠0 by decide)
 have h2:=Int.emod_lt_of_pos h (show (0:Int)<2 ^ 64 by decide)
 lia
def Ab (mask:Nat) (h:Int) (m:Nat):SetTable.Probe:=itr mask m (HX mask (SetTable.bits h%(mask+1)) (SetTable.bits h))
theorem PB (mask i perturb:Nat) (hi:i<mask+1):∀k,(Bq mask k (i,perturb)).1<mask+1
 |0=>hi
 |k+1=>Nat.mod_lt _ (Nat.succ_pos _)
theorem VX {mask:Nat} (hc:Cyc (mask+1)) (h:Int) {j:Nat} (hj:j<mask+1):∃m<10*SetTable.turns mask,(Ab mask h m).j=j:=by
 have hi:SetTable.bits h%(mask+1)<mask+1:=Nat.mod_lt _ (Nat.succ_pos _)
 obtain ⟨a,ha,ea⟩:=hc _ (PB mask _ (SetTable.bits h) hi 13) j hj
 obtain ⟨m,hm,e⟩:=KN mask (SetTable.bits h%(mask+1)) (SetTable.bits h) (13+a)
 refine ⟨m,by unfold SetTable.turns;lia,?_⟩
 unfold Ab
 rw [e]
 show (Bq mask (13+a) _).1=j
 rw [Gn mask _ _ (R9 h)]
 exact ea
theorem YO {mask:Nat} (h:Int) (m:Nat):(Ab mask h m).j≤mask:=by
 have key:∀m,∃r,r+(itr mask m (HX mask (SetTable.bits h%(mask+1)) (SetTable.bits h))).j=(itr mask m (HX mask (SetTable.bits h%(mask+1)) (SetTable.bits h))).j+r/\(itr mask m (HX mask (SetTable.bits h%(mask+1)) (SetTable.bits h))).j+(itr mask m (HX mask (SetTable.bits h%(mask+1)) (SetTable.bits h))).more≤mask:=by
  intro m
  refine ⟨0,by lia,?_⟩
  have run:∀i,i<mask+1->i+(SetTable.runEnd mask i-i)≤mask:=fun i hi=>by unfold SetTable.runEnd;split<;>lia
  induction m with
  |zero=>exact run _ (Nat.mod_lt _ (Nat.succ_pos _))
  |succ m ih=>
   rw [J1]
   generalize itr mask m (HX mask (SetTable.bits h%(mask+1)) (SetTable.bits h))=p at ih
   unfold Lg
   split
   ·simp only;lia
   ·exact run _ (Nat.mod_lt _ (Nat.succ_pos _))
 obtain ⟨_,_,e⟩:=key m
 unfold Ab
 lia
theorem dF {P:Nat->Prop} (h:∃m,P m):∃m,P m/\∀m'<m,¬P m':=by
 obtain ⟨m,hm⟩:=h
 induction m using Nat.strongRecOn with
 |ind m ih=>
  by_cases c:∃m'<m,P m'
  ·obtain ⟨m',h1,h2⟩:=c
   exact ih m' h1 h2
  ·exact ⟨m,hm,fun m' h1 h2=>c ⟨m',h1,h2⟩⟩
theorem J5 (xs:Array Nat) (j:Nat) (up:xs.toList.Pairwise (·<·)):∀(fuel lo hi:Nat),lo≤hi->hi≤xs.size->hi-lo≤fuel->(∀i<lo,∀x,xs[i]?=some x->x<j)->(∀i,hi≤i->∀x,xs[i]?=some x->j≤x) →
  SetTable.below.go xs j fuel lo hi≤xs.size/\(∀i<SetTable.below.go xs j fuel lo hi,∀x,xs[i]?=some x->x<j)/\(∀i,SetTable.below.go xs j fuel lo hi≤i->∀x,xs[i]?=some x->j≤x)
 |0,lo,hi,h1,h2,h3,h4,h5=>by
  have e:lo=hi:=by lia
  subst e
  exact ⟨h2,h4,h5⟩
 |fuel+1,lo,hi,h1,h2,h3,h4,h5=>by
  have mono:∀a b x y,a<b->xs[a]?=some x->xs[b]?=some y->x<y:=fun a b x y M8 ha hb=>by
   obtain ⟨Xe,t7⟩:=Array.getElem?_eq_some_iff.mp ha
   obtain ⟨QC,ZG⟩:=Array.getElem?_eq_some_iff.mp hb
   have:=List.pairwise_iff_getElem.mp up a b (by simpa using Xe) (by simpa using QC) M8
   simp only [Array.getElem_toList]at this
   rw [<-t7,<-ZG];exact this
  unfold SetTable.below.go
  by_cases c:lo<hi
  ·rw [if_pos c]
   have hm:(lo+hi) / 2<xs.size:=by lia
   have hg:xs[(lo+hi) / 2]?=some xs[(lo+hi) / 2]:=Array.getElem?_eq_getElem hm
   have hd:xs.getD ((lo+hi) / 2) j=xs[(lo+hi) / 2]:=by rw [Array.getD_eq_getD_getElem?,hg];rfl
   simp only [hd]
   by_cases c2:xs[(lo+hi) / 2]<j
   ·rw [if_pos c2]
    refine J5 xs j up fuel _ _ (by lia) h2 (by lia) (fun i MN x hx=>?_) h5
    rcases Nat.lt_or_eq_of_le (Nat.lt_succ_iff.mp MN)with h|h
    ·exact Nat.lt_trans (mono _ _ _ _ h hx hg) c2
    ·subst h;rw [hg]at hx;cases hx;exact c2
   ·rw [if_neg c2]
    refine J5 xs j up fuel _ _ (by lia) (by lia) (by lia) h4 (fun i MN x hx=>?_)
    rcases Nat.lt_or_eq_of_le MN with h|h
    ·have:=mono _ _ _ _ h hg hx;lia
    ·subst h;rw [hg]at hx;cases hx;lia
  ·rw [if_neg c]
   have e:lo=hi:=by lia
   subst e
   exact ⟨h2,h4,h5⟩
theorem Eu (xs:Array Nat) (j:Nat) (up:xs.toList.Pairwise (·<·)):SetTable.below xs j≤xs.size/\(∀i<SetTable.below xs j,∀x,xs[i]?=some x->x<j)/\(∀i,SetTable.below xs j≤i->∀x,xs[i]?=some x->j≤x):=
 J5 xs j up xs.size 0 xs.size (Nat.zero_le _) (Nat.le_refl _) (by lia) (fun i h=>by lia) (fun i h x hx=>by
  have:=(Array.getElem?_eq_some_iff.mp hx).1;lia)
theorem MC {t:SetTable} (up:t.place.toList.Pairwise (·<·)) {j:Nat} (h:j∈t.place.toList):∃i,t.slot j=.live i/\t.place[i]?=some j:=by
 obtain ⟨h1,h2,h3⟩:=Eu t.place j up
 obtain ⟨k,hk,e⟩:=List.getElem_of_mem h
 have Dp:k<t.place.size:=by simpa using hk
 have eg:t.place[k]?=some j:=by rw [Array.getElem?_eq_getElem Dp];simpa using e
 have hb:SetTable.below t.place j≤k:=by
  by_cases c:k<SetTable.below t.place j
  ·have:=h2 k c j eg;lia
  ·lia
 have hs:SetTable.below t.place j<t.place.size:=by lia
 have eb:t.place[SetTable.below t.place j]?=some t.place[SetTable.below t.place j]:=Array.getElem?_eq_getElem hs
 have:t.place[SetTable.below t.place j]=j:=by
  have l1:=h3 _ (Nat.le_refl _) _ eb
  rcases Nat.lt_or_eq_of_le hb with c|c
  ·have:=List.pairwise_iff_getElem.mp up _ k (by simpa using hs) hk c
   simp only [Array.getElem_toList]at this
   have e':t.place[k]=j:=by simpa using e
   lia
  ·simp only [c];simpa using e
 rw [this]at eb
 refine ⟨_,?_,eb⟩
 unfold SetTable.slot
 simp only [eb,beq_self_eq_true,if_true]
theorem P7 {t:SetTable} (hd:t.dummies=#[]) {j:Nat} (h:j∉t.place.toList):t.slot j=.empty:=by
 unfold SetTable.slot
 have e:(t.place[SetTable.below t.place j]?==some j)=false:=by
  cases c:t.place[SetTable.below t.place j]? with
  |none=>rfl
  |some x=>
   obtain ⟨h1,h2⟩:=Array.getElem?_eq_some_iff.mp c
   have:x∈t.place.toList:=by rw [<-h2];simp
   simp only [beq_eq_false_iff_ne,ne_eq,Option.some.injEq]
   rintro rfl
   exact h this
 have e2:SetTable.has t.dummies j=false:=by rw [hd];rfl
 simp only [e,e2,Bool.false_eq_true,if_false]
theorem HF {t:SetTable} (up:t.place.toList.Pairwise (·<·)) (hd:t.dummies=#[]) (j:Nat):t.slot j=.empty/\j∉t.place.toList\/∃i,t.slot j=.live i/\t.place[i]?=some j:=by
 by_cases h:j∈t.place.toList
 ·exact .inr (MC up h)
 ·exact .inl ⟨P7 hd h,h⟩
theorem Oh {t:SetTable} {hashAt:Nat->Int} {h:Int}:∀(m fuel:Nat) (p:SetTable.Probe),m<fuel->(∀m'<m,∃i,t.slot (itr t.mask m' p).j=.live i/\(hashAt i==h)=false) →
  (t.slot (itr t.mask m p).j=.empty->SetTable.probe.go t hashAt h fuel p=some (.empty (itr t.mask m p).j p.dummy)) ∧
  ∀i,t.slot (itr t.mask m p).j=.live i->(hashAt i==h)=true->SetTable.probe.go t hashAt h fuel p=some (.candidate (itr t.mask m p).j i (t.advance (itr t.mask m p)))
 |0,fuel+1,p,_,_=>by
  refine ⟨fun e=>?_,fun i e e'=>?_⟩
  ·show SetTable.probe.go t hashAt h (fuel+1) p=_
   unfold SetTable.probe.go
   rw [show t.slot p.j=.empty from e]
   rfl
  ·show SetTable.probe.go t hashAt h (fuel+1) p=_
   unfold SetTable.probe.go
   rw [show t.slot p.j=.live i from e]
   simp only [e',if_true]
   rfl
 |m+1,fuel+1,p,hm,hb=>by
  obtain ⟨i,e1,e2⟩:=hb 0 (by lia)
  have uK:t.slot p.j=.live i:=e1
  have:=Oh m fuel (Lg t.mask p) (by lia) fun m' JP=>hb (m'+1) (by lia)
  have eg:SetTable.probe.go t hashAt h (fuel+1) p=SetTable.probe.go t hashAt h fuel (Lg t.mask p):=by
   rw [SetTable.probe.go]
   rw [uK]
   simp only [e2,Bool.false_eq_true,if_false]
   rfl
  rw [eg]
  obtain ⟨h1,h2⟩:=this
  rw [Si]at h1
  exact ⟨h1,h2⟩
structure TabOk (mask:Nat) (PL:List (Nat×Int)):Prop where
 up:(PL.map (·.1)).Pairwise (·<·)
 le:∀q∈PL,q.1≤mask
 on:∀q∈PL,∃m<10*SetTable.turns mask,(Ab mask q.2 m).j=q.1/\∀m'<m,(Ab mask q.2 m').j∈PL.map (·.1)
theorem MB {mask:Nat} {L:List Nat} (hl:L.length≤mask):∃j<mask+1,j∉L:=by
 refine Classical.byContradiction fun c=>?_
 have Eo:∀j∈List.range (mask+1),j∈L:=fun j hj=>Classical.byContradiction fun z=>c ⟨j,List.mem_range.mp hj,z⟩
 have nd:(List.range (mask+1)).Nodup:=List.nodup_range
 have:(List.range (mask+1)).length≤L.length:=by
  have key:∀(l m:List Nat),l.Nodup->(∀x∈l,x∈m)->l.length≤m.length:=by
   intro l
   induction l with
   |nil=>intro m _ _;exact Nat.zero_le _
   |cons a l ih=>
    intro m nd hm
    obtain ⟨n1,n2⟩:=List.nodup_cons.mp nd
    have ha:=hm a (List.mem_cons_self ..)
    have:=ih (m.erase a) n2 fun x hx=>(List.mem_erase_of_ne (fun (e:x=a)=>n1 (e▸hx))).mpr (hm x (List.mem_cons_of_mem _ hx))
    rw [List.length_erase_of_mem ha]at this
    have h0:0<m.length:=List.length_pos_of_mem ha
    simp only [List.length_cons]
    lia
  exact key _ _ nd Eo
 rw [List.length_range]at this
 lia
theorem aH {t:SetTable} {hashAt:Nat->Int} {PL:List (Nat×Int)} (T:TabOk t.mask PL) (hc:Cyc (t.mask+1)) (hp:t.place.toList=PL.map (·.1)) (hd:t.dummies=#[]) (hl:PL.length≤t.mask) (hh:∀i,∀q,PL[i]?=some q->hashAt i=q.2) (h:Int) :
  (∃i j next,PL[i]?=some (j,h)/\t.probe hashAt h (t.probeStart h)=some (.candidate j i next)) ∨
  ((∀q∈PL,q.2≠h)/\∃m<10*SetTable.turns t.mask,(Ab t.mask h m).j∉PL.map (·.1)/\(∀m'<m,(Ab t.mask h m').j∈PL.map (·.1))/\t.probe hashAt h (t.probeStart h)=some (.empty (Ab t.mask h m).j none)):=by
 have up:t.place.toList.Pairwise (·<·):=by rw [hp];exact T.up
 have lv:∀(j i:Nat),t.place[i]?=some j->∃q:Nat×Int,PL[i]?=some q/\q.1=j:=fun j i e=>by
  have:t.place.toList[i]?=some j:=by rw [Array.getElem?_toList];exact e
  rw [hp,List.getElem?_map]at this
  obtain ⟨q,h1,h2⟩:=Option.map_eq_some_iff.mp this
  exact ⟨q,h1,h2⟩
 obtain ⟨j0,jd,pQ⟩:=MB (mask:=t.mask) (L:=PL.map (·.1)) (by rw [List.length_map];exact hl)
 obtain ⟨m0,uc,e0⟩:=VX hc h jd
 obtain ⟨m,⟨Vw,ao⟩,di⟩:=dF (P:=fun m=>m<10*SetTable.turns t.mask/\((Ab t.mask h m).j∉PL.map (·.1)\/∃i,t.slot (Ab t.mask h m).j=.live i/\(hashAt i==h)=true)) ⟨m0,uc,.inl (by rw [e0];exact pQ)⟩
 have hb:∀m'<m,∃i,t.slot (Ab t.mask h m').j=.live i/\(hashAt i==h)=false:=fun m' JP=>by
  have hn:=di m' JP
  rcases HF up hd (Ab t.mask h m').j with ⟨_,c⟩|⟨i,c,_⟩
  ·exact absurd ⟨by lia,.inl (by rw [<-hp];exact c)⟩ hn
  ·refine ⟨i,c,?_⟩
   cases q:hashAt i==h with
   |false=>rfl
   |true=>exact absurd ⟨by lia,.inr ⟨i,c,q⟩⟩ hn
 have Jt:∀m'<m,(Ab t.mask h m').j∈PL.map (·.1):=fun m' JP=>by
  refine Classical.byContradiction fun c=>di m' JP ⟨by lia,.inl c⟩
 obtain ⟨g1,g2⟩:=Oh (t:=t) (hashAt:=hashAt) (h:=h) m (10*SetTable.turns t.mask) (HX t.mask (SetTable.bits h%(t.mask+1)) (SetTable.bits h)) Vw hb
 rcases HF up hd (Ab t.mask h m).j with ⟨e,c⟩|⟨i,e,c⟩
 ·right
  rw [hp]at c
  refine ⟨fun q hq e'=>?_,m,Vw,c,Jt,g1 e⟩
  obtain ⟨mq,_,h2,h3⟩:=T.on q hq
  rw [e']at h2 h3
  have eW:(Ab t.mask h mq).j∈PL.map (·.1):=by rw [h2];exact List.mem_map_of_mem hq
  rcases Nat.lt_trichotomy mq m with z|z|z
  ·obtain ⟨i,z1,z2⟩:=hb mq z
   obtain ⟨i',z3,z4⟩:=MC up (j:=(Ab t.mask h mq).j) (by rw [hp];exact eW)
   rw [z1]at z3
   cases z3
   obtain ⟨q',z5,z6⟩:=lv _ _ z4
   have:q'=q:=by
    obtain ⟨k,hk,ek⟩:=List.getElem_of_mem hq
    obtain ⟨MN,oy⟩:=List.getElem?_eq_some_iff.mp z5
    have iA:k=i:=by
     rcases Nat.lt_trichotomy k i with y|y|y
     ·have:=List.pairwise_iff_getElem.mp T.up k i (by simpa using hk) (by simpa using MN) y
      simp only [List.getElem_map,ek,oy,z6,h2]at this
      lia
     ·exact y
     ·have:=List.pairwise_iff_getElem.mp T.up i k (by simpa using MN) (by simpa using hk) y
      simp only [List.getElem_map,ek,oy,z6,h2]at this
      lia
    subst iA
    rw [<-oy,<-ek]
   have:=hh i q' z5
   rw [‹q'=q›,e']at this
   rw [this,beq_self_eq_true]at z2
   cases z2
  ·subst z;exact c eW
  ·exact c (h3 m z)
 ·left
  obtain ⟨q,z5,z6⟩:=lv _ _ c
  have hi:(hashAt i==h)=true:=by
   rcases ao with z|⟨i',z1,z2⟩
   ·exact absurd (by rw [<-z6];exact List.mem_map_of_mem (List.mem_of_getElem? z5)) z
   ·rw [e]at z1;cases z1;exact z2
  refine ⟨i,_,_,?_,g2 i e hi⟩
  have:=hh i q z5
  rw [z5]
  have e':q.2=h:=by rw [<-this];exact eq_of_beq hi
  obtain ⟨a,b⟩:=q
  simp only at z6 e'
  rw [z6,e']
  rfl
theorem Oj {α:Type} (l:List α) (p:Nat) (x:α):(l.take p++x::l.drop p).Perm (x::l):=by
 have:=List.perm_middle (a:=x) (l₁:=l.take p) (l₂:=l.drop p)
 rw [List.take_append_drop]at this
 exact this
theorem aj {xs:Array Nat} {j:Nat} (up:xs.toList.Pairwise (·<·)) (hj:j∉xs.toList):(xs.toList.take (SetTable.below xs j)++j::xs.toList.drop (SetTable.below xs j)).Pairwise (·<·):=by
 obtain ⟨h1,h2,h3⟩:=Eu xs j up
 rw [List.pairwise_append]
 have lt:∀a∈xs.toList.take (SetTable.below xs j),a<j:=fun a ha=>by
  obtain ⟨i,hi,e⟩:=List.mem_take_iff_getElem.mp ha
  refine h2 i (by lia) a ?_
  rw [<-Array.getElem?_toList,List.getElem?_eq_getElem (by lia),e]
 have ge:∀b∈xs.toList.drop (SetTable.below xs j),j<b:=fun b hb=>by
  obtain ⟨i,hi,e⟩:=List.mem_drop_iff_getElem.mp hb
  have:=h3 (SetTable.below xs j+i) (by lia) b (by rw [<-Array.getElem?_toList,List.getElem?_eq_getElem (by lia),e])
  have Co:b≠j:=fun z=>hj (z▸List.mem_of_mem_drop hb)
  lia
 refine ⟨up.sublist (List.take_sublist _ _),List.pairwise_cons.mpr ⟨ge,up.sublist (List.drop_sublist _ _)⟩,fun a ha b hb=>?_⟩
 rcases List.mem_cons.mp hb with e|hb
 ·rw [e];exact lt a ha
 ·exact Nat.lt_trans (lt a ha) (ge b hb)
theorem TabOk.ins {mask:Nat} {PL:List (Nat×Int)} (T:TabOk mask PL) {h:Int} {m:Nat} (hm:m<10*SetTable.turns mask) (hn:(Ab mask h m).j∉PL.map (·.1)) (hb:∀m'<m,(Ab mask h m').j∈PL.map (·.1)) {xs:Array Nat} (hp:xs.toList=PL.map (·.1)) :
  TabOk mask (PL.take (SetTable.below xs (Ab mask h m).j)++((Ab mask h m).j,h)::PL.drop (SetTable.below xs (Ab mask h m).j)):=by
 have pm:=Oj PL (SetTable.below xs (Ab mask h m).j) ((Ab mask h m).j,h)
 have mem:∀j,j∈(PL.take (SetTable.below xs (Ab mask h m).j)++((Ab mask h m).j,h)::PL.drop (SetTable.below xs (Ab mask h m).j)).map (·.1)↔j=(Ab mask h m).j\/j∈PL.map (·.1):=fun j=>by
  rw [(pm.map (·.1)).mem_iff];simp
 refine ⟨?_,fun q hq=>?_,fun q hq=>?_⟩
 ·have:=aj (xs:=xs) (j:=(Ab mask h m).j) (by rw [hp];exact T.up) (by rw [hp];exact hn)
  rw [hp]at this
  simpa using this
 ·rcases List.mem_cons.mp (pm.mem_iff.mp hq)with e|hq
  ·rw [e];exact YO h m
  ·exact T.le q hq
 ·rcases List.mem_cons.mp (pm.mem_iff.mp hq)with e|hq
  ·rw [e]
   exact ⟨m,hm,rfl,fun m' JP=>(mem _).mpr (.inr (hb m' JP))⟩
  ·obtain ⟨mq,h1,h2,h3⟩:=T.on q hq
   exact ⟨mq,h1,h2,fun m' JP=>(mem _).mpr (.inr (h3 m' JP))⟩
theorem JF (mask:Nat) (p:Nat×Nat):∀k,Bq mask (k+1) p=Bq mask k (SetTable.leap mask p.1 p.2)
 |0=>rfl
 |k+1=>by
  show SetTable.leap mask (Bq mask (k+1) p).1 (Bq mask (k+1) p).2=SetTable.leap mask (Bq mask k _).1 (Bq mask k _).2
  rw [JF mask p k]
theorem R7 {mask:Nat} {owner:Array (Option Nat)} (hsz:owner.size=mask+1):∀(fuel i perturb:Nat),i<mask+1->(∃k<fuel,owner[(Bq mask k (i,perturb)).1]?=some none) →
  ∃j m,SetTable.layClean.free mask owner fuel i perturb=some j/\m<10*fuel/\(itr mask m (HX mask i perturb)).j=j/\owner[j]?=some none/\∀m'<m,∃k,owner[(itr mask m' (HX mask i perturb)).j]?=some (some k)
 |0,_,_,_,⟨k,hk,_⟩=>absurd hk (Nat.not_lt_zero _)
 |fuel+1,i,perturb,hi,⟨k,hk,e⟩=>by
  have jh:∀r,r≤SetTable.runEnd mask i-i->i+r<mask+1:=fun r hr=>by
   unfold SetTable.runEnd at hr;split at hr<;>lia
  have hle:i≤SetTable.runEnd mask i:=by unfold SetTable.runEnd;split<;>lia
  have y8:=RL mask i
  have getD:∀r,r≤SetTable.runEnd mask i-i->owner[i+r]?=some (owner.getD (i+r) (some 0)):=fun r hr=>by
   have:=jh r hr
   rw [Array.getElem?_eq_getElem (by lia),Array.getD_eq_getD_getElem?,Array.getElem?_eq_getElem (by lia)]
   rfl
  unfold SetTable.layClean.free
  cases hf:(List.range (SetTable.runEnd mask i+1-i)).find? fun k=>(owner.getD (i+k) (some 0)).isNone with
  |some r=>
   have h1:=List.mem_of_find?_eq_some hf
   have h2:=List.find?_some hf
   rw [List.mem_range]at h1
   have hr:r≤SetTable.runEnd mask i-i:=by lia
   refine ⟨i+r,r,rfl,by lia,by rw [J4 mask i perturb r hr],?_,fun m' JP=>?_⟩
   ·rw [getD r hr,Option.isNone_iff_eq_none.mp h2]
   ·rw [J4 mask i perturb m' (by lia)]
    show ∃k,owner[i+m']?=some (some k)
    rw [getD m' (by lia)]
    have hb:¬(owner.getD (i+m') (some 0)).isNone=true:=by
     obtain ⟨_,as,bs,hs,Eo⟩:=List.find?_eq_some_iff_append.mp hf
     have hlen:as.length=r:=by
      have:=congrArg (fun l=>l[as.length]?) hs
      simp only [List.getElem?_append_right (Nat.le_refl _),Nat.sub_self,List.getElem?_cons_zero]at this
      obtain ⟨z1,z2⟩:=List.getElem?_eq_some_iff.mp this
      rw [List.getElem_range]at z2
      exact z2
     have hm:m'∈as:=by
      have:(List.range (SetTable.runEnd mask i+1-i))[m']?=some m':=by rw [List.getElem?_range (by lia)]
      rw [hs,List.getElem?_append_left (by lia)]at this
      exact List.mem_of_getElem? this
     have:=Eo m' hm
     exact fun z=>by rw [z]at this;cases this
    cases q:owner.getD (i+m') (some 0)with
    |none=>rw [q]at hb;exact absurd rfl hb
    |some k=>exact ⟨k,rfl⟩
  |none=>
   have Eo:∀r,r≤SetTable.runEnd mask i-i->∃k,owner[i+r]?=some (some k):=fun r hr=>by
    have:=List.find?_eq_none.mp hf r (by rw [List.mem_range];lia)
    rw [getD r hr]
    cases q:owner.getD (i+r) (some 0)with
    |none=>rw [q]at this;exact absurd rfl this
    |some k=>exact ⟨k,rfl⟩
   cases k with
   |zero=>
    obtain ⟨k',e'⟩:=Eo 0 (Nat.zero_le _)
    have e0:owner[i]?=some none:=e
    rw [Nat.add_zero,e0]at e'
    cases e'
   |succ k=>
    rw [JF]at e
    obtain ⟨j,m,h1,h2,h3,h4,h5⟩:=R7 hsz fuel (SetTable.leap mask i perturb).1 (SetTable.leap mask i perturb).2 (Nat.mod_lt _ (Nat.succ_pos _)) ⟨k,by lia,e⟩
    refine ⟨j,SetTable.runEnd mask i-i+1+m,h1,by lia,?_,h4,fun m' JP=>?_⟩
    ·rw [HS,LQ];exact h3
    ·by_cases c:m'≤SetTable.runEnd mask i-i
     ·rw [J4 mask i perturb m' c];exact Eo m' c
     ·have:m'=SetTable.runEnd mask i-i+1+(m'-(SetTable.runEnd mask i-i+1)):=by lia
      rw [this,HS,LQ]
      exact h5 _ (by lia)
structure Owns (mask:Nat) (hs:List Int) (js:List Nat) (owner:Array (Option Nat)):Prop where
 size:owner.size=mask+1
 len:js.length=hs.length
 nd:js.Nodup
 le:∀j∈js,j≤mask
 own:∀j k:Nat,owner[j]?=some (some k)↔js[k]?=some j
 none:∀j:Nat,j≤mask->j∉js->owner[j]?=some none
 on:∀(k:Nat) (j:Nat) (h:Int),js[k]?=some j->hs[k]?=some h->∃m<10*SetTable.turns mask,(Ab mask h m).j=j/\∀m'<m,(Ab mask h m').j∈js
def Jo (mask:Nat) (acc:Option (Array (Option Nat)×Nat)) (h:Int):Option (Array (Option Nat)×Nat):=do
  let (owner,k) <-acc
  let j <-SetTable.layClean.free mask owner (SetTable.turns mask) (SetTable.bits h%(mask+1)) (SetTable.bits h)
  pure (owner.setIfInBounds j (some k),k+1)
theorem Pk (mask:Nat) (hashes:Array Int):SetTable.layClean mask hashes=(hashes.toList.foldl (Jo mask) (some (Array.replicate (mask+1) none,0))).map (·.1):=by
 unfold SetTable.layClean
 rw [<-Array.foldl_toList]
 rfl
theorem TJ {mask:Nat} (hc:Cyc (mask+1)) {hs:List Int} {js:List Nat} {owner:Array (Option Nat)} (O:Owns mask hs js owner) (hl:js.length≤mask) (h:Int):∃j,Jo mask (some (owner,hs.length)) h=some (owner.setIfInBounds j (some hs.length),hs.length+1)/\Owns mask (hs++[h]) (js++[j]) (owner.setIfInBounds j (some hs.length)):=by
 have hi:SetTable.bits h%(mask+1)<mask+1:=Nat.mod_lt _ (Nat.succ_pos _)
 obtain ⟨j0,jd,pQ⟩:=MB hl
 obtain ⟨a,ha,ea⟩:=hc _ (PB mask _ (SetTable.bits h) hi 13) j0 jd
 obtain ⟨j,m,h1,h2,h3,h4,h5⟩:=R7 O.size (SetTable.turns mask) (SetTable.bits h%(mask+1)) (SetTable.bits h) hi ⟨13+a,by unfold SetTable.turns;lia,by
  rw [Gn mask _ _ (R9 h),ea]
  exact O.none j0 (by lia) pQ⟩
 have sW:j<owner.size:=(Array.getElem?_eq_some_iff.mp h4).1
 have qK:j∉js:=fun hj=>by
  obtain ⟨k,hk,e⟩:=List.getElem_of_mem hj
  have:=(O.own j k).mpr (by rw [List.getElem?_eq_getElem hk,e])
  rw [h4]at this
  cases this
 have vx:j≤mask:=by rw [O.size]at sW;lia
 refine ⟨j,?_,?_,?_,?_,?_,?_,?_,?_⟩
 ·unfold Jo
  simp only [Option.bind_eq_bind,Option.bind_some,h1]
  rfl
 ·rw [Array.size_setIfInBounds,O.size]
 ·simp [O.len]
 ·rw [List.nodup_append]
  refine ⟨O.nd,by simp,fun x hx y hy=>?_⟩
  rw [List.mem_singleton.mp hy]
  rintro rfl
  exact qK hx
 ·intro x hx
  rcases List.mem_append.mp hx with hx|hx
  ·exact O.le x hx
  ·rw [List.mem_singleton.mp hx];exact vx
 ·intro x k
  by_cases hx:x=j
  ·subst hx
   rw [Array.getElem?_setIfInBounds_self_of_lt sW]
   constructor
   ·intro e
    cases e
    rw [<-O.len,List.getElem?_append_right (Nat.le_refl _),Nat.sub_self]
    rfl
   ·intro e
    by_cases hk:k<js.length
    ·rw [List.getElem?_append_left hk]at e
     exact absurd (List.mem_of_getElem? e) qK
    ·have Dp:k<(js++[x]).length:=(List.getElem?_eq_some_iff.mp e).1
     have:k=hs.length:=by simp at Dp;have:=O.len;lia
     rw [this]
  ·rw [Array.getElem?_setIfInBounds_ne (Ne.symm hx),O.own]
   constructor
   ·intro e
    rw [List.getElem?_append_left (List.getElem?_eq_some_iff.mp e).1]
    exact e
   ·intro e
    by_cases hk:k<js.length
    ·rw [List.getElem?_append_left hk]at e;exact e
    ·rw [List.getElem?_append_right (by lia)]at e
     have:=List.mem_of_getElem? e
     rw [List.mem_singleton]at this
     exact absurd this hx
 ·intro x hx hn
  rw [List.mem_append,List.mem_singleton,not_or]at hn
  rw [Array.getElem?_setIfInBounds_ne (fun e=>hn.2 e.symm)]
  exact O.none x hx hn.1
 ·intro k x h' e1 e2
  by_cases hk:k<js.length
  ·rw [List.getElem?_append_left hk]at e1
   rw [List.getElem?_append_left (by rw [<-O.len];exact hk)]at e2
   obtain ⟨mq,z1,z2,z3⟩:=O.on k x h' e1 e2
   exact ⟨mq,z1,z2,fun m' JP=>List.mem_append_left _ (z3 m' JP)⟩
  ·rw [List.getElem?_append_right (by lia)]at e1
   rw [List.getElem?_append_right (by rw [<-O.len];lia),<-O.len]at e2
   have Tv:k-js.length=0:=by
    have:=(List.getElem?_eq_some_iff.mp e1).1
    simp at this;lia
   rw [Tv]at e1 e2
   cases e1
   cases e2
   refine ⟨m,h2,h3,fun m' JP=>List.mem_append_left _ ?_⟩
   obtain ⟨k',Dp⟩:=h5 m' JP
   exact List.mem_of_getElem? ((O.own _ _).mp Dp)
theorem O6 {mask:Nat} (hc:Cyc (mask+1)):∀(rest hs:List Int) (js:List Nat) (owner:Array (Option Nat)),Owns mask hs js owner->(hs++rest).length≤mask+1 →
  ∃ZN NY,rest.foldl (Jo mask) (some (owner,hs.length))=some (NY,(hs++rest).length)/\Owns mask (hs++rest) ZN NY
 |[],hs,js,owner,O,_=>⟨js,owner,by simp,by simpa using O⟩
 |h::rest,hs,js,owner,O,hl=>by
  have XG:js.length≤mask:=by rw [O.len];simp at hl;lia
  obtain ⟨j,e,O'⟩:=TJ hc O XG h
  obtain ⟨ZN,NY,e',yR⟩:=O6 hc rest (hs++[h]) _ _ O' (by simpa using hl)
  refine ⟨ZN,NY,?_,by simpa using yR⟩
  rw [List.foldl_cons,e]
  simpa using e'
theorem Yg {mask:Nat} (hc:Cyc (mask+1)) (finger moves:Nat) (led plain:Bool) {hashes:Array Int} (hl:hashes.size≤mask+1) :
  ∃live:List (Nat×Nat),SetTable.laid mask finger moves led plain hashes=some ({ mask,place:=(live.map (·.1)).toArray,dummies:=#[],finger,led,moves,plain },(live.map (·.2)).toArray) ∧
   (live.map (·.2)).Perm (List.range hashes.size)/\∀g:Nat->Int,(∀k h,hashes[k]?=some h->g k=h)->TabOk mask (live.map fun p=>(p.1,g p.2)):=by
 have O0:Owns mask [] [] (Array.replicate (mask+1) none):=by
  refine ⟨by simp,rfl,List.nodup_nil,by simp,fun j k=>?_,fun j hj _=>?_,fun k j h e=>by simp at e⟩
  ·constructor
   ·intro e
    obtain ⟨h1,h2⟩:=Array.getElem?_eq_some_iff.mp e
    simp at h2
   ·intro e;simp at e
  ·rw [Array.getElem?_eq_getElem (by simp;lia)]
   simp
 obtain ⟨js,owner,e,O⟩:=O6 hc hashes.toList [] [] _ O0 (by simpa using hl)
 have e1:SetTable.layClean mask hashes=some owner:=by rw [Pk,show (some (Array.replicate (mask+1) none,0):Option (Array (Option Nat)×Nat))=some (Array.replicate (mask+1) none,([]:List Int).length)from rfl,e];rfl
 rw [List.nil_append]at O
 refine ⟨(List.range (mask+1)).filterMap fun j=>(owner.getD j none).map (j,·),?_,?_,fun g hg=>?_⟩
 ·unfold SetTable.laid
  rw [e1]
  rfl
 all_goals
  have mem:∀j k,(j,k)∈((List.range (mask+1)).filterMap fun j=>(owner.getD j none).map (j,·))↔js[k]?=some j:=fun j k=>by
   rw [List.mem_filterMap]
   constructor
   ·rintro ⟨a,ha,e⟩
    obtain ⟨k',e1,e2⟩:=Option.map_eq_some_iff.mp e
    cases e2
    rw [<-O.own]
    rw [List.mem_range]at ha
    rw [Array.getD_eq_getD_getElem?]at e1
    rw [Array.getElem?_eq_getElem (by rw [O.size];exact ha)]at e1 ⊢
    simpa using e1
   ·intro e
    have hj:=O.le j (List.mem_of_getElem? e)
    refine ⟨j,List.mem_range.mpr (by lia),?_⟩
    rw [Array.getD_eq_getD_getElem?,(O.own j k).mpr e]
    rfl
  have up:(((List.range (mask+1)).filterMap fun j=>(owner.getD j none).map (j,·)).map (·.1)).Pairwise (·<·):=by
   have:∀l:List Nat,l.Pairwise (·<·)->((l.filterMap fun j=>(owner.getD j none).map (j,·)).map (·.1)).Sublist l:=by
    intro l _
    induction l with
    |nil=>simp
    |cons a l ih=>
     rename_i h
     rw [List.filterMap_cons]
     split
     ·exact (ih (List.pairwise_cons.mp h).2).cons _
     ·rename_i q hq
      obtain ⟨_,_,e2⟩:=Option.map_eq_some_iff.mp hq
      rw [<-e2]
      exact (ih (List.pairwise_cons.mp h).2).cons₂ _
   exact List.pairwise_lt_range.sublist (this _ List.pairwise_lt_range)
 ·rw [List.perm_ext_iff_of_nodup _ List.nodup_range]
  ·intro k
   rw [List.mem_map,List.mem_range]
   constructor
   ·rintro ⟨⟨j,k'⟩,h1,rfl⟩
    have:=(List.getElem?_eq_some_iff.mp ((mem j k').mp h1)).1
    rw [O.len]at this
    simpa using this
   ·intro hk
    have Dp:k<js.length:=by rw [O.len];simpa using hk
    exact ⟨(js[k],k),(mem _ _).mpr (List.getElem?_eq_getElem Dp),rfl⟩
  ·have h1:=List.pairwise_map.mp up
   unfold List.Nodup
   rw [List.pairwise_map]
   refine h1.imp_of_mem fun {a b} ha hb A4 e=>?_
   obtain ⟨j1,k1⟩:=a
   obtain ⟨j2,k2⟩:=b
   simp only at e A4
   subst e
   have z1:=(mem j1 k1).mp ha
   rw [(mem j2 k1).mp hb]at z1
   cases z1
   lia
 ·refine ⟨by rw [List.map_map];exact up,fun q hq=>?_,fun q hq=>?_⟩
  ·obtain ⟨⟨j,k⟩,h1,rfl⟩:=List.mem_map.mp hq
   exact O.le j (List.mem_of_getElem? ((mem j k).mp h1))
  ·obtain ⟨⟨j,k⟩,h1,rfl⟩:=List.mem_map.mp hq
   have hj:=(mem j k).mp h1
   have hk:k<hashes.toList.length:=by rw [<-O.len];exact (List.getElem?_eq_some_iff.mp hj).1
   obtain ⟨m,z1,z2,z3⟩:=O.on k j hashes.toList[k] hj (List.getElem?_eq_getElem hk)
   have si:g k=hashes.toList[k]:=hg k _ (by rw [<-Array.getElem?_toList,List.getElem?_eq_getElem hk])
   simp only [si]
   refine ⟨m,z1,z2,fun m' JP=>?_⟩
   obtain ⟨k',Dp,e'⟩:=List.getElem_of_mem (z3 m' JP)
   rw [List.map_map,List.mem_map]
   exact ⟨((Ab mask hashes.toList[k] m').j,k'),(mem _ _).mpr (by rw [List.getElem?_eq_getElem Dp,e']),rfl⟩
structure EK (prog:Program) (w:World) (K:Type) [DecidableEq K] where
 is:Heap->K->Value->Prop
 hash:K->Int
 room:Around->Prop
 noscan:∀{h k u},is h k u->u.scannable=false
 eqBool:∀{A:Around} {E:Value->Shared->Prop} {s:Shared} {x y:K} {u v:Value} {Q:Bool->Shared->Prop},room A->is s.heap x u->is s.heap y v->Q (decide (x=y)) s->wpAny (model prog w) A (PySem.eqBool u v) Q E s
 byValue:∀{A:Around} {E:Value->Shared->Prop} {s:Shared} {x:K} {u:Value} {Q:Bool->Shared->Prop},is s.heap x u->Q true s->wpAny (model prog w) A (hashByValue 8 u) Q E s
 unseen:∀{A:Around} {E:Value->Shared->Prop} {s:Shared} {x:K} {u:Value} {vs:List Value} {Q:Bool->Shared->Prop},is s.heap x u->(∀v∈vs,∃y,is s.heap y v)->Q false s->wpAny (model prog w) A (searchCouldBeSeen u vs) Q E s
 pyHash:∀{A:Around} {E:Value->Shared->Prop} {s:Shared} {x:K} {u:Value} {Q:Int->Shared->Prop},room A->is s.heap x u->(∀tk,Q (hash x) { s with toks:=tk })->wpAny (model prog w) A (PySem.pyHash u) Q E s
 keeps:∀{h h':Heap} {k:K} {u:Value},is h k u->(∀b o,h.get? b=some o->(∀es ep t,o.data≠.set es ep t)->(∀vs,o.data≠.fields vs)->h'.get? b=some o)->is h' k u
section
variable {prog:Program}{w:World}{K:Type} [DecidableEq K] (knd:EK prog w K)
def Cap (mask n:Nat):Prop:=(mask=7/\n≤4)\/(mask=31/\n≤18)\/(mask=127/\n≤76)
structure ElP (h:Heap) (k:K) (e:Int×Value):Prop where
 hash:e.1=knd.hash k
 is:knd.is h k e.2
structure TabD (h:Heap) (es:Array (Int×Value)) (t:SetTable) (ks:List K):Prop where
 ex:∃js:List Nat,TabOk t.mask (js.zip (es.toList.map (·.1)))/\t.place.toList=js/\js.length=es.size
 nod:t.dummies=#[]
 els:∃Fu:List K,Fu.Perm ks/\Fu.length=es.size/\∀(i:Nat) k e,Fu[i]?=some k->es[i]?=some e->ElP knd h k e
 nd:ks.Nodup
def SetAt (h:Heap) (a:Addr) (ks:List K):Prop:=∃o es ep t,h.get? a=some o/\o.ExactSet/\o.data=.set es ep t/\TabD knd h es t ks/\Cap t.mask es.size/\t.plain=true/\t.led=!w.params.followText "set-order"
variable {knd}
theorem TabD.size {h:Heap} {es:Array (Int×Value)} {t:SetTable} {ks:List K} (T:TabD knd h es t ks):es.size=ks.length:=by
 obtain ⟨Fu,p,e,_⟩:=T.els
 rw [<-e,p.length_eq]
theorem TabD.fits {h:Heap} {es:Array (Int×Value)} {t:SetTable} {ks:List K} (T:TabD knd h es t ks) (hm:es.size≤t.mask):t.fits es.size=true:=by
 obtain ⟨js,T1,e1,e2⟩:=T.ex
 have:t.place.size=es.size:=by rw [<-Array.length_toList,e1,e2]
 unfold SetTable.fits SetTable.fill
 rw [T.nod,this]
 simp [hm]
theorem EZ {α β:Type}:∀{l:List α} {m:List β},l.length=m.length->(l.zip m).map (·.1)=l
 |[],_,_=>by simp
 |a::l,[],h=>by simp at h
 |a::l,b::m,h=>by
  simp only [List.zip_cons_cons,List.map_cons,List.cons.injEq,true_and]
  exact EZ (by simpa using h)
theorem RE {α β:Type} {l:List α} {m:List β} {i:Nat} {p:α×β} (h:(l.zip m)[i]?=some p):l[i]?=some p.1/\m[i]?=some p.2:=by
 rw [List.getElem?_zip_eq_some]at h
 exact h
variable {A:Around}{E:Value->Shared->Prop}{s:Shared}
theorem TL {a:Addr} {o:Obj} {es:Array (Int×Value)} {ep:Nat} {t:SetTable} {ks:List K} {k:K} {u:Value} {Q:SetFound->Shared->Prop} (ho:s.heap.get? a=some o) (hd:o.data=.set es ep t) (T:TabD knd s.heap es t ks)
  (hc:Cyc (t.mask+1)) (Ye:t.mask%2=1) (hm:es.size≤t.mask) (hr:knd.room A) (hk:knd.is s.heap k u) (inj:∀k'∈ks,knd.hash k'=knd.hash k->k'=k)
  (h1:k∈ks->Q (.there none) s)
  (h2:k∉ks->∀m,m<10*SetTable.turns t.mask->(Ab t.mask (knd.hash k) m).j∉t.place.toList->(∀m'<m,(Ab t.mask (knd.hash k) m').j∈t.place.toList)->Q (.free (Ab t.mask (knd.hash k) m).j false) s) :
  wpAny (model prog w) A (setSearch a u (knd.hash k) true) Q E s:=by
 have hf:=T.fits hm
 obtain ⟨js,T1,e1,e2⟩:=T.ex
 obtain ⟨Fu,pm,hl,Kk⟩:=T.els
 have hlen:js.length=(es.toList.map (·.1)).length:=by rw [e2,List.length_map,Array.length_toList]
 have dG:=EZ hlen
 have sS:∀i e,es[i]?=some e->∃k',Fu[i]?=some k'/\k'∈ks/\ElP knd s.heap k' e:=fun i e he=>by
  have hi:i<Fu.length:=by rw [hl];exact (Array.getElem?_eq_some_iff.mp he).1
  exact ⟨Fu[i],List.getElem?_eq_getElem hi,pm.mem_iff.mp (List.getElem_mem hi),Kk i _ e (List.getElem?_eq_getElem hi) he⟩
 unfold setSearch
 rw [setSearchFrom]
 refine wpAny_bind (wpAny_setState_of ho hd hf ?_)
 dsimp only
 have hg:t.gaveWay=false:=by unfold SetTable.gaveWay;rw [Ye];rfl
 rw [hg]
 simp only [Bool.false_eq_true,if_false,Option.getD_none]
 generalize hH:(fun (i:Nat)=>(es[i]?.map (·.1)).getD 0)=hashAt
 have Zf:∀i,hashAt i=(es[i]?.map (·.1)).getD 0:=fun i=>by rw [<-hH]
 have res:=aH (t:=t) (hashAt:=hashAt) T1 hc (by rw [dG];exact e1) T.nod (by rw [List.length_zip,<-hlen,Nat.min_self,e2];exact hm) (fun i q hq=>by
  obtain ⟨_,z2⟩:=RE hq
  rw [List.getElem?_map,Array.getElem?_toList]at z2
  rw [Zf,z2];rfl) (knd.hash k)
 have YZ:∀f:Nat->Int,(∀i,f i=hashAt i)->t.probe f (knd.hash k) (t.probeStart (knd.hash k))=t.probe hashAt (knd.hash k) (t.probeStart (knd.hash k)):=fun f uC=>by rw [funext uC]
 rw [YZ _ (fun i=>by rw [Zf];rfl)]
 rcases res with ⟨i,j,next,hi,e⟩|⟨ow,m,Vw,ao,sQ,e⟩
 ·rw [e]
  dsimp only
  obtain ⟨z1,z2⟩:=RE hi
  rw [List.getElem?_map,Array.getElem?_toList]at z2
  obtain ⟨ent,he,aV⟩:=Option.map_eq_some_iff.mp z2
  obtain ⟨k',Mx,Dr,hE⟩:=sS i ent he
  have Wq:k'=k:=inj k' Dr (by rw [<-hE.hash];exact aV)
  subst Wq
  cases G0:t.led
  ·simp only [Bool.not_false,if_true]
   refine wpAny_bind (knd.unseen hk (fun v hv=>?_) ?_)
   ·obtain ⟨e',iJ,rfl⟩:=List.mem_map.mp hv
    have:e'∈es:=by
     have:=(Array.mem_filter.mp (Array.mem_toList_iff.mp iJ)).1
     exact this
    obtain ⟨i',gv,jJ⟩:=Array.getElem_of_mem this
    obtain ⟨k2,_,_,uy⟩:=sS i' e' (by rw [Array.getElem?_eq_getElem gv,jJ])
    exact ⟨k2,uy.is⟩
   simp only [Bool.false_eq_true,if_false]
   rw [he]
   dsimp only
   refine wpAny_bind (wpAny_holding (knd.eqBool hr hE.is hk ?_))
   rw [decide_eq_true rfl]
   refine wpAny_bind (wpAny_setState_of ho hd hf ?_)
   dsimp only
   simp only [Bool.and_self,if_true]
   exact wpAny_pure (h1 Dr)
  ·simp only [Bool.not_true,Bool.false_eq_true,if_false]
   rw [he]
   dsimp only
   refine wpAny_bind (wpAny_holding (knd.eqBool hr hE.is hk ?_))
   rw [decide_eq_true rfl]
   refine wpAny_bind (wpAny_setState_of ho hd hf ?_)
   dsimp only
   simp only [Bool.and_self,if_true]
   exact wpAny_pure (h1 Dr)
 ·rw [e]
  dsimp only
  rw [dG]at ao sQ
  refine wpAny_pure (h2 (fun Jt=>?_) m Vw (by rw [e1];exact ao) (by rw [e1];exact sQ))
  obtain ⟨i,hi,ei⟩:=List.getElem_of_mem (pm.mem_iff.mpr Jt)
  have MN:i<es.size:=by rw [<-hl];exact hi
  have hE:=Kk i k es[i] (by rw [List.getElem?_eq_getElem hi,ei]) (Array.getElem?_eq_getElem MN)
  have tx:i<js.length:=by rw [e2];exact MN
  refine ow (js[i],es[i].1) ?_ hE.hash
  have:(js.zip (es.toList.map (·.1)))[i]?=some (js[i],es[i].1):=by
   rw [List.getElem?_zip_eq_some]
   refine ⟨List.getElem?_eq_getElem tx,?_⟩
   rw [List.getElem?_map,Array.getElem?_toList,Array.getElem?_eq_getElem MN]
   rfl
  exact List.mem_of_getElem? this
end
theorem Jr {α:Type} {l:List α} {p:Nat} (hp:p≤l.length) (x:α) (i:Nat):(l.take p++x::l.drop p)[i]?=if i<p then l[i]? else if i=p then some x else l[i-1]?:=by
 by_cases h1:i<p
 ·rw [if_pos h1,List.getElem?_append_left (by rw [List.length_take];lia),List.getElem?_take_of_lt h1]
 ·rw [if_neg h1,List.getElem?_append_right (by rw [List.length_take];lia),List.length_take,Nat.min_eq_left hp]
  by_cases h2:i=p
  ·rw [if_pos h2,h2,Nat.sub_self];rfl
  ·rw [if_neg h2,show i-p=(i-p-1)+1 by lia,List.getElem?_cons_succ,List.getElem?_drop]
   congr 1
   lia
theorem YG {α β:Type} {l:List α} {m:List β} (h:l.length=m.length) {p:Nat} (hp:p≤l.length) (x:α) (y:β):(l.take p++x::l.drop p).zip (m.take p++y::m.drop p)=(l.zip m).take p++(x,y)::(l.zip m).drop p:=by
 rw [List.zip_append (by rw [List.length_take,List.length_take,h]),List.zip_cons_cons]
 have tz:∀(n:Nat) (l:List α) (m:List β),(l.take n).zip (m.take n)=(l.zip m).take n/\(l.drop n).zip (m.drop n)=(l.zip m).drop n:=by
  intro n
  induction n with
  |zero=>intro l m;simp
  |succ n ih=>
   intro l m
   cases l with
   |nil=>simp
   |cons a l=>
    cases m with
    |nil=>simp
    |cons b m=>simp [ih l m]
 rw [(tz p l m).1,(tz p l m).2]
theorem W4 {α β:Type} (f:α->β) (l:List α) (p:Nat) (x:α):(l.take p++x::l.drop p).map f=(l.map f).take p++f x::(l.map f).drop p:=by
 rw [List.map_append,List.map_cons,List.map_take,List.map_drop]
section
variable {prog:Program}{w:World}{K:Type} [DecidableEq K] {knd:EK prog w K}{A:Around}{E:Value->Shared->Prop}{s:Shared}
theorem TabD.keeps {h h':Heap} {es:Array (Int×Value)} {t:SetTable} {ks:List K} {a:Addr} {o:Obj} {Gu XD t'} (T:TabD knd h es t ks) (ho:h.get? a=some o) (hd:o.data=.set Gu XD t') (hs:Heap.SameBut a h h'):TabD knd h' es t ks:=by
 obtain ⟨Fu,pm,hl,Kk⟩:=T.els
 exact ⟨T.ex,T.nod,⟨Fu,pm,hl,fun i k e h1 h2=>⟨(Kk i k e h1 h2).hash,knd.keeps (Kk i k e h1 h2).is fun b o' hb Ts _=>hs.extBut b o' (fun z=>by subst z;rw [ho]at hb;cases hb;exact Ts _ _ _ hd) hb⟩⟩,T.nd⟩
theorem TabD.kept {h h':Heap} {es:Array (Int×Value)} {t:SetTable} {ks:List K} (T:TabD knd h es t ks) (hk:∀b o,h.get? b=some o->(∀es ep t,o.data≠.set es ep t)->(∀vs,o.data≠.fields vs)->h'.get? b=some o):TabD knd h' es t ks:=by
 obtain ⟨Fu,pm,hl,Kk⟩:=T.els
 exact ⟨T.ex,T.nod,⟨Fu,pm,hl,fun i k e h1 h2=>⟨(Kk i k e h1 h2).hash,knd.keeps (Kk i k e h1 h2).is hk⟩⟩,T.nd⟩
theorem TabD.ins {h:Heap} {es:Array (Int×Value)} {t:SetTable} {ks:List K} {k:K} {u:Value} (T:TabD knd h es t ks) (hk:knd.is h k u) (hn:k∉ks) {m:Nat} (hm:m<10*SetTable.turns t.mask)
  (hj:(Ab t.mask (knd.hash k) m).j∉t.place.toList) (hb:∀m'<m,(Ab t.mask (knd.hash k) m').j∈t.place.toList) :
  TabD knd h (SetTable.insertAt es (SetTable.below t.place (Ab t.mask (knd.hash k) m).j) (knd.hash k,u)) (t.put (Ab t.mask (knd.hash k) m).j).1 (k::ks):=by
 obtain ⟨js,T1,e1,e2⟩:=T.ex
 obtain ⟨Fu,pm,hl,Kk⟩:=T.els
 have hlen:js.length=(es.toList.map (·.1)).length:=by rw [e2,List.length_map,Array.length_toList]
 have up:t.place.toList.Pairwise (·<·):=by have:=T1.up;rw [EZ hlen]at this;rw [e1];exact this
 have hp:=(Eu t.place (Ab t.mask (knd.hash k) m).j up).1
 have ZW:t.place.size=es.size:=by rw [<-Array.length_toList,e1,e2]
 have qE:(t.put (Ab t.mask (knd.hash k) m).j).1.dummies=#[]:=by
  unfold SetTable.put
  have:SetTable.has t.dummies (Ab t.mask (knd.hash k) m).j=false:=by rw [T.nod];rfl
  simp only [this,Bool.false_eq_true,if_false]
  exact T.nod
 generalize hpp:SetTable.below t.place (Ab t.mask (knd.hash k) m).j=p at hp
 have hsz:(SetTable.insertAt es p (knd.hash k,u)).size=es.size+1:=by
  rw [<-Array.length_toList,SetTable.toList_insertAt,List.length_append,List.length_cons,List.length_take,List.length_drop,Array.length_toList];lia
 refine ⟨⟨js.take p++(Ab t.mask (knd.hash k) m).j::js.drop p,?_,?_,?_⟩,qE,⟨Fu.take p++k::Fu.drop p,?_,?_,fun i k' e h1 h2=>?_⟩,List.nodup_cons.mpr ⟨hn,T.nd⟩⟩
 ·rw [SetTable.toList_insertAt,W4,YG hlen (by rw [e2];lia)]
  have:=T1.ins (h:=knd.hash k) hm (by rw [EZ hlen,<-e1];exact hj) (by rw [EZ hlen,<-e1];exact hb) (xs:=t.place) (by rw [EZ hlen];exact e1)
  rw [hpp]at this
  exact this
 ·show (SetTable.insertAt t.place (SetTable.below t.place _) _).toList=_
  rw [SetTable.toList_insertAt,hpp,e1]
 ·rw [hsz,List.length_append,List.length_cons,List.length_take,List.length_drop,e2];lia
 ·exact (Oj Fu p k).trans (pm.cons k)
 ·rw [hsz,List.length_append,List.length_cons,List.length_take,List.length_drop,hl];lia
 ·rw [Jr (by rw [hl];lia)]at h1
  rw [<-Array.getElem?_toList,SetTable.toList_insertAt,Jr (by rw [Array.length_toList];lia)]at h2
  by_cases c1:i<p
  ·rw [if_pos c1]at h1 h2
   exact Kk i k' e h1 (by rw [<-Array.getElem?_toList];exact h2)
  ·rw [if_neg c1]at h1 h2
   by_cases c2:i=p
   ·rw [if_pos c2]at h1 h2
    cases h1;cases h2
    exact ⟨rfl,hk⟩
   ·rw [if_neg c2]at h1 h2
    exact Kk (i-1) k' e h1 (by rw [<-Array.getElem?_toList];exact h2)
theorem TabD.relay {h:Heap} {es:Array (Int×Value)} {t:SetTable} {ks:List K} (T:TabD knd h es t ks) {wanted:Nat} {live:List (Nat×Nat)} {t':SetTable} (e:t'={ mask:=SetTable.sizeAbove wanted-1,place:=(live.map (·.1)).toArray,dummies:=#[],finger:=t.finger,led:=t.led,moves:=t.movedTo (SetTable.sizeAbove wanted-1),plain:=t.plain })
  (hp:(live.map (·.2)).Perm (List.range es.size)) (hg:∀g:Nat->Int,(∀k h,(es.map (·.1))[k]?=some h->g k=h)->TabOk (SetTable.sizeAbove wanted-1) (live.map fun p=>(p.1,g p.2))) :
  ((live.map (·.2)).toArray.filterMap (es[·]?)).size=es.size/\TabD knd h ((live.map (·.2)).toArray.filterMap (es[·]?)) t' ks:=by
 obtain ⟨Fu,pm,hl,Kk⟩:=T.els
 have A4:∀q∈live,q.2<es.size:=fun q hq=>List.mem_range.mp (hp.mem_iff.mp (List.mem_map_of_mem hq))
 have fm:∀{β:Type} (l:List β) (n:Nat),n=l.length->(∀q∈live,q.2<n)->∀d:β,(live.map (·.2)).filterMap (l[·]?)=live.map fun q=>l.getD q.2 d:=by
  intro β l n hn VR d
  clear A4 hp hg e
  induction live with
  |nil=>rfl
  |cons q r ih=>
   have hq:q.2<l.length:=by rw [<-hn];exact VR q (List.mem_cons_self ..)
   rw [List.map_cons,List.filterMap_cons_some (List.getElem?_eq_getElem hq),List.map_cons,ih (fun q hq=>VR q (List.mem_cons_of_mem _ hq)),List.getD_eq_getElem?_getD,List.getElem?_eq_getElem hq]
   rfl
 have hle:live.length=es.size:=by have:=hp.length_eq;rw [List.length_map,List.length_range]at this;exact this
 have gk:((live.map (·.2)).toArray.filterMap (es[·]?)).toList=live.map fun q=>es.toList.getD q.2 (0,.none):=by
  rw [Array.toList_filterMap]
  have:(fun (x:Nat)=>es[x]?)=fun x=>es.toList[x]?:=funext fun x=>by rw [Array.getElem?_toList]
  rw [this]
  exact fm es.toList es.size (by rw [Array.length_toList]) A4 _
 have hsz:((live.map (·.2)).toArray.filterMap (es[·]?)).size=es.size:=by rw [<-Array.length_toList,gk,List.length_map,hle]
 refine ⟨hsz,⟨live.map (·.1),?_,by rw [e],by rw [List.length_map,hle,hsz]⟩,by rw [e],?_,T.nd⟩
 ·have:=hg (fun k=>(es.toList.getD k (0,.none)).1) (fun k h' hk=>by
   rw [Array.getElem?_map]at hk
   obtain ⟨x,h1,h2⟩:=Option.map_eq_some_iff.mp hk
   rw [List.getD_eq_getElem?_getD,Array.getElem?_toList,h1]
   exact h2)
  rw [gk,e]
  have ez:(live.map (·.1)).zip ((live.map fun q=>es.toList.getD q.2 (0,.none)).map (·.1))=live.map fun p=>(p.1,(es.toList.getD p.2 (0,.none)).1):=by
   rw [List.map_map]
   clear hp hg e A4 hle gk hsz this fm
   induction live with
   |nil=>rfl
   |cons q r ih=>simp only [List.map_cons,List.zip_cons_cons,ih,Function.comp]
  rw [ez]
  exact this
 ·cases Tv:Fu with
  |nil=>
   have:es.size=0:=by rw [<-hl,Tv];rfl
   refine ⟨[],by rw [<-Tv];exact pm,by rw [hsz,this];rfl,fun i k e' h1=>by simp at h1⟩
  |cons kd kr=>
   have uq:(live.map (·.2)).filterMap (Fu[·]?)=live.map fun q=>Fu.getD q.2 kd:=fm Fu es.size hl.symm A4 kd
   refine ⟨live.map fun q=>Fu.getD q.2 kd,?_,by rw [List.length_map,hle,hsz],fun i k e' h1 h2=>?_⟩
   ·refine List.Perm.trans ?_ pm
    rw [<-uq]
    refine (hp.filterMap _).trans ?_
    rw [<-hl,List.filterMap_getElem?_range_length]
   ·rw [List.getElem?_map]at h1
    rw [<-Array.getElem?_toList,gk,List.getElem?_map]at h2
    obtain ⟨q,hq,rfl⟩:=Option.map_eq_some_iff.mp h1
    rw [hq]at h2
    cases h2
    have ZV:=A4 q (List.mem_of_getElem? hq)
    refine Kk q.2 _ _ ?_ ?_
    ·rw [List.getElem?_eq_getElem (by rw [hl];exact ZV),List.getD_eq_getElem?_getD,List.getElem?_eq_getElem (by rw [hl];exact ZV)]
     rfl
    ·show es[q.2]?=some (es.toList.getD q.2 (0,.none))
     rw [List.getD_eq_getElem?_getD,Array.getElem?_toList,Array.getElem?_eq_getElem ZV]
     rfl
theorem NQ {mask n:Nat} (h:Cap mask n):Cyc (mask+1)/\mask%2=1/\n+1≤mask:=by
 rcases h with ⟨rfl,h⟩|⟨rfl,h⟩|⟨rfl,h⟩
 ·exact ⟨mK,rfl,by lia⟩
 ·exact ⟨ZF,rfl,by lia⟩
 ·exact ⟨Vn,rfl,by lia⟩
theorem Vl {h:Heap} {a:Addr} {o:Obj} {es:Array (Int×Value)} {ep:Nat} {t:SetTable} (ho:h.get? a=some o) (hd:o.data=.set es ep t) (Gu:Array (Int×Value)) (t':SetTable) :
  (h.update a (Obj.putSet Gu t')).get? a=some { o with data:=.set Gu (ep+1) t' }:=by
 have:=Heap.get?_update_self (Obj.putSet Gu t') ho (by rw [putSet_of Gu t' hd];rfl)
 rw [putSet_of Gu t' hd]at this
 exact this
theorem Zh {a:Addr} {ks:List K} {k:K} {u:Value} {Q:Bool->Shared->Prop} (S:SetAt knd s.heap a ks) (hr:knd.room A) (hk:knd.is s.heap k u) (inj:∀k'∈ks,knd.hash k'=knd.hash k->k'=k) (xa:ks.length<76)
  (h:∀h' b,Heap.SameBut a s.heap h'->SetAt knd h' a (if k∈ks then ks else k::ks)->Q b { s with heap:=h' }) :
  wpAny (model prog w) A (setAddHashed a u (knd.hash k)) Q E s:=by
 obtain ⟨o,es,ep,t,ho,hex,hd,T,hc,eO,Y9⟩:=S
 obtain ⟨d7,Ye,gW⟩:=NQ hc
 have hsz:=T.size
 have hf:=T.fits (by lia)
 unfold setAddHashed setAddHashedIn
 refine wpAny_holding (wpAny_bind (wpAny_setState_of ho hd hf ?_))
 dsimp only
 have ya:byScan u es=false:=by unfold byScan;rw [knd.noscan hk];rfl
 rw [ya]
 simp only [Bool.false_eq_true,if_false]
 refine wpAny_bind (TL ho hd T d7 Ye (by lia) hr hk inj (fun Jt=>?_) fun hn m hm hj hb=>?_)
 ·refine wpAny_pure ?_
  have e:s={ s with heap:=s.heap }:=by cases s;rfl
  rw [e]
  refine h s.heap _ (Heap.SameBut.refl a s.heap) ?_
  rw [if_pos Jt]
  exact ⟨o,es,ep,t,ho,hex,hd,T,hc,eO,Y9⟩
 dsimp only
 refine wpAny_bind (wpAny_setState_of ho hd hf ?_)
 dsimp only
 have T2:=T.ins hk hn hm hj hb
 have Xm:=T2.size
 have key:∀(t1:SetTable) (p1:Nat),t.put (Ab t.mask (knd.hash k) m).j=(t1,p1)->wpAny (model prog w) A (storeSet a (SetTable.insertAt es p1 (knd.hash k,u)) t1 >>= fun _=>if (!false&&t1.tooFull)=true then setRelay a (SetTable.grown (es.size+1)) >>= fun _=>pure true else pure true) Q E s:=by
  intro t1 p1 qV
  have et:t1=(t.put (Ab t.mask (knd.hash k) m).j).1:=by rw [qV]
  have qQ:p1=SetTable.below t.place (Ab t.mask (knd.hash k) m).j:=by
   have:(t.put (Ab t.mask (knd.hash k) m).j).2=p1:=by rw [qV]
   rw [<-this];rfl
  rw [<-et,<-qQ]at T2
  rw [<-qQ]at Xm
  have R8:t1.mask=t.mask:=by rw [et];rfl
  have gD:t1.plain=true:=by rw [et];exact eO
  have Yt:t1.led=!w.params.followText "set-order":=by rw [et];exact Y9
  have Ql:(SetTable.insertAt es p1 (knd.hash k,u)).size=es.size+1:=by rw [Xm,List.length_cons,hsz]
  have hle:es.size+1≤77:=by lia
  have CG:∀n,n≤77->n≤sizeLine:=fun n hn=>Nat.le_trans hn (by rw [sizeLine_eq];decide)
  refine wpAny_bind (wpAny_storeSet_of ho hd ?_ (CG _ (by rw [Ql];exact hle)))
  have N7:=Vl ho hd (SetTable.insertAt es p1 (knd.hash k,u)) t1
  have cC:=Heap.SameBut.update s.heap a (Obj.putSet (SetTable.insertAt es p1 (knd.hash k,u)) t1)
  have T3:=T2.keeps ho hd cC
  have Yu:t1.fill=es.size+1:=by
   obtain ⟨js,_,e1,e2⟩:=T2.ex
   unfold SetTable.fill
   rw [T2.nod,<-Array.length_toList,e1,e2,Ql]
   rfl
  by_cases hfull:t1.tooFull=true
  ·rw [hfull]
   simp only [Bool.not_false,Bool.and_self,if_true]
   unfold SetTable.tooFull at hfull
   rw [Yu,R8,decide_eq_true_eq]at hfull
   have fU:(t.mask=7/\es.size=4)\/(t.mask=31/\es.size=18):=by
    rcases hc with ⟨e1,e2⟩|⟨e1,e2⟩|⟨e1,e2⟩<;>rw [e1]at hfull<;>lia
   obtain ⟨nm,iy,ZR,fA,SW⟩:∃nm,SetTable.sizeAbove (SetTable.grown (es.size+1))-1=nm/\Cap nm (es.size+1)/\Cyc (nm+1)/\SetTable.sizeAbove (SetTable.grown (es.size+1))≤128:=by
    rcases fU with ⟨_,e⟩|⟨_,e⟩
    ·rw [e];exact ⟨31,by decide,.inr (.inl ⟨rfl,by lia⟩),ZF,by decide⟩
    ·rw [e];exact ⟨127,by decide,.inr (.inr ⟨rfl,by lia⟩),Vn,by decide⟩
   refine wpAny_bind ?_
   unfold setRelay
   refine wpAny_bind (wpAny_setState_of N7 rfl (T3.fits (by rw [Ql,R8];lia)) ?_)
   dsimp only
   rw [if_neg (Nat.not_lt.mpr (Nat.le_trans SW (by rw [sizeLine_eq];decide)))]
   obtain ⟨live,eP,Yo,hg⟩:=Yg (mask:=SetTable.sizeAbove (SetTable.grown (es.size+1))-1) (by rw [iy];exact fA) t1.finger (t1.movedTo (SetTable.sizeAbove (SetTable.grown (es.size+1))-1)) t1.led t1.plain (hashes:=(SetTable.insertAt es p1 (knd.hash k,u)).map (·.1)) (by
    rw [Array.size_map,Ql,iy]
    have:=(NQ ZR).2.2
    lia)
   have pP:t1.relaid ((SetTable.insertAt es p1 (knd.hash k,u)).map (·.1)) (SetTable.grown (es.size+1))=_:=eP
   rw [pP]
   rw [Array.size_map]at Yo
   obtain ⟨Mn,T4⟩:=T3.relay (wanted:=SetTable.grown (es.size+1)) rfl Yo hg
   refine wpAny_bind ?_
   refine wpAny_of_eq (a:=((live.map (·.2)).toArray.filterMap ((SetTable.insertAt es p1 (knd.hash k,u))[·]?),_)) (by
    show (if (_ != _)=true then _ else _)=_
    rw [if_neg (by rw [Mn];simp)]) ?_
   dsimp only
   refine wpAny_storeSet_of N7 rfl ?_ (CG _ (by rw [Mn,Ql];exact hle))
   have WR:=Vl N7 rfl ((live.map (·.2)).toArray.filterMap ((SetTable.insertAt es p1 (knd.hash k,u))[·]?)) { mask:=SetTable.sizeAbove (SetTable.grown (es.size+1))-1,place:=(live.map (·.1)).toArray,dummies:=#[],finger:=t1.finger,led:=t1.led,moves:=t1.movedTo (SetTable.sizeAbove (SetTable.grown (es.size+1))-1),plain:=t1.plain }
   have da:=Heap.SameBut.update (s.heap.update a (Obj.putSet (SetTable.insertAt es p1 (knd.hash k,u)) t1)) a (Obj.putSet ((live.map (·.2)).toArray.filterMap ((SetTable.insertAt es p1 (knd.hash k,u))[·]?)) { mask:=SetTable.sizeAbove (SetTable.grown (es.size+1))-1,place:=(live.map (·.1)).toArray,dummies:=#[],finger:=t1.finger,led:=t1.led,moves:=t1.movedTo (SetTable.sizeAbove (SetTable.grown (es.size+1))-1),plain:=t1.plain })
   refine wpAny_pure (h _ _ (cC.trans da) ?_)
   rw [if_neg hn]
   refine ⟨_,_,_,_,WR,hex,rfl,T4.keeps N7 rfl da,?_,gD,Yt⟩
   rw [Mn,Ql]
   show Cap (SetTable.sizeAbove (SetTable.grown (es.size+1))-1) _
   rw [iy]
   exact ZR
  ·rw [Bool.eq_false_iff.mpr hfull]
   simp only [Bool.not_false,Bool.and_false,Bool.false_eq_true,if_false]
   refine wpAny_pure (h _ _ cC ?_)
   rw [if_neg hn]
   refine ⟨_,_,_,_,N7,hex,rfl,T3,?_,gD,Yt⟩
   rw [Ql,R8]
   have Uo:¬(t1.fill*5≥t1.mask*3):=fun z=>hfull (by unfold SetTable.tooFull;exact decide_eq_true z)
   rw [Yu,R8]at Uo
   rcases hc with ⟨e1,e2⟩|⟨e1,e2⟩|⟨e1,e2⟩<;>rw [e1]at Uo ⊢
   ·exact .inl ⟨rfl,by lia⟩
   ·exact .inr (.inl ⟨rfl,by lia⟩)
   ·exact .inr (.inr ⟨rfl,by lia⟩)
 generalize hput:t.put (Ab t.mask (knd.hash k) m).j=pr
 obtain ⟨t1,p1⟩:=pr
 dsimp only
 cases hpl:t1.plain
 ·simp only [Bool.false_eq_true,if_false]
  refine wpAny_bind (wpAny_pure ?_)
  simp only [if_true]
  exact key t1 p1 hput
 ·simp only [if_true]
  refine wpAny_bind (knd.byValue hk ?_)
  simp only [if_true]
  exact key t1 p1 hput
end
end TF
namespace TF
open PySem PyProof.Rows
section
variable {K:Type} [DecidableEq K]
def DA (acc:List K):List K->List K
 |[]=>acc
 |k::r=>DA (if k∈acc then acc else k::acc) r
theorem Oi:∀(l acc m:List K),DA acc (l++m)=DA (DA acc l) m
 |[],_,_=>rfl
 |k::l,acc,m=>by rw [List.cons_append,DA,DA];exact Oi l _ m
theorem LO:∀(l acc:List K) (x:K),x∈DA acc l↔x∈acc\/x∈l
 |[],acc,x=>by simp [DA]
 |k::l,acc,x=>by
  rw [DA,LO l]
  by_cases h:k∈acc
  ·rw [if_pos h,List.mem_cons]
   constructor
   ·rintro (h1|h1)
    ·exact .inl h1
    ·exact .inr (.inr h1)
   ·rintro (h1|rfl|h1)
    ·exact .inl h1
    ·exact .inl h
    ·exact .inr h1
  ·rw [if_neg h,List.mem_cons,List.mem_cons]
   constructor
   ·rintro ((h1|h1)|h1)
    ·exact .inr (.inl h1)
    ·exact .inl h1
    ·exact .inr (.inr h1)
   ·rintro (h1|h1|h1)
    ·exact .inl (.inr h1)
    ·exact .inl (.inl h1)
    ·exact .inr h1
theorem Ja:∀(l acc:List K),acc.Nodup->(DA acc l).Nodup
 |[],_,h=>h
 |k::l,acc,h=>by
  rw [DA]
  by_cases c:k∈acc
  ·rw [if_pos c];exact Ja l acc h
  ·rw [if_neg c];exact Ja l _ (List.nodup_cons.mpr ⟨c,h⟩)
theorem TN {l m:List K} (nd:l.Nodup) (hm:∀x∈l,x∈m):l.length≤m.length:=by
 induction l generalizing m with
 |nil=>exact Nat.zero_le _
 |cons a l ih=>
  obtain ⟨n1,n2⟩:=List.nodup_cons.mp nd
  have ha:=hm a (List.mem_cons_self ..)
  have:=ih (m:=m.erase a) n2 fun x hx=>(List.mem_erase_of_ne (fun (e:x=a)=>n1 (e▸hx))).mpr (hm x (List.mem_cons_of_mem _ hx))
  rw [List.length_erase_of_mem ha]at this
  have h0:0<m.length:=List.length_pos_of_mem ha
  simp only [List.length_cons]
  lia
end
section
variable {prog:Program}{w:World}{K:Type} [DecidableEq K] {knd:EK prog w K}{A:Around}
theorem SetAt.kept {h h':Heap} {S:Addr} {ks:List K} (x:SetAt knd h S ks) (hS:∀o,h.get? S=some o->h'.get? S=some o) (hk:∀b o,h.get? b=some o->(∀es ep t,o.data≠.set es ep t)->(∀vs,o.data≠.fields vs)->h'.get? b=some o):SetAt knd h' S ks:=by
 obtain ⟨o,es,ep,t,ho,hex,hd,T,hc⟩:=x
 exact ⟨o,es,ep,t,hS o ho,hex,hd,T.kept hk,hc⟩
end
abbrev Nf (led:Bool):Obj:={ cls:=.type "set",dict:=none,data:=.set #[] 0 (.fresh 0 0 led) }
section
variable {prog:Program}{w:World}{K:Type} [DecidableEq K] {knd:EK prog w K}{A:Around}{E:Value->Shared->Prop}{s:Shared}
abbrev Oo (w:World):Bool:=!w.params.followText "set-order"
theorem TX (a:Value) {Q₁:Value->Shared->Prop} (h:Q₁ (.ref s.heap.objs.size) { s with heap:=s.heap.push (Nf (Oo w)) }) :
  codeAny (model prog w) A (.call (.builtin "set.__new__") ⟨[.type "set",a],[]⟩) (wants Q₁ E) s:=by
 refine codeAny_of_tree ?_
 show wpAny _ A.in1 (checkBuiltinCall "set.__new__" _ >>= fun _=>again (.builtin "set.__new__" _)) _ _ s
 refine wpAny_bind (wpAny_of_eq (F.newCall_set_1 a) (wpAny_pure ⟨plainId_quiet F.plain_set_new _,codeAny_builtin F.entry_set_new ?_⟩))
 rw [Around.under_plainId F.plain_set_new _]
 unfold Builtin.«set.__new__» Builtin.Frozenset.newClass
 have sb:=sub_set_self
 obtain ⟨hp,g,d,tk,os⟩:=s
 dsimp only
 wp_walk
 refine wpAny_askSetting (wpAny_pure ?_)
 dsimp only
 simp only [newObj]
 exact wpAny_bind (wpAny_alloc (wpAny_pure (wpAny_pure h)))
theorem SetAt.new (h:Heap) (led:Bool) (G0:led=Oo w) {h':Heap} {a:Addr} (e:h'.get? a=some (Nf led)):SetAt knd h' a []:=by
 refine ⟨_,#[],0,_,e,⟨rfl,rfl,rfl⟩,rfl,⟨⟨[],⟨.nil,by simp,by simp⟩,rfl,rfl⟩,rfl,⟨[],.refl _,rfl,fun i k e h=>by simp at h⟩,.nil⟩,.inl ⟨rfl,by simp⟩,rfl,G0⟩
end
theorem Hr:Slot "set_iterator" "__next__" "set_iterator.__next__":=.of (owner:="set_iterator") (n:="__next__")
 (by rw [typeLookup_type,builtinLookup_eq_fast];kernel_rfl)
 (by decide +kernel) (by decide +kernel) (by decide +kernel)
 (by first|exact .inl (by decide +kernel)|exact .inr (by decide +kernel))
 (by rw [isSubtype_type];kernel_rfl)
theorem Pd:entryFor table "set_iterator.__next__"=some Builtin.«set_iterator.__next__»:=entryFor_of_tree (by kernel_rfl)
theorem VV:Manifest.owners.lookup (String.ofList ['r','o','t','a','r','e','t','i','_','t','e','s'].reverse)=some Manifest.sig_set_iterator:=by kernel_rfl
theorem RP (a:Value):argsOk "set_iterator.__next__" ⟨[a],[]⟩:=by
 unfold argsOk
 rw [signature?_of (id:="set_iterator.__next__") (n:=['_','_','t','x','e','n','_','_']) (o:=['r','o','t','a','r','e','t','i','_','t','e','s']) (by kernel_rfl) VV]
 kernel_rfl
theorem KD:entryFor table "set.__iter__"=some Builtin.«frozenset.__iter__»:=entryFor_alias (id':="frozenset.__iter__") (by kernel_rfl) rfl (by decide +kernel) (by kernel_rfl)
theorem MF {α:Type} (next:Nat->Nat):∀(fuel k:Nat) (left:List α) (out:Array α),fuel=left.length->(pickOrder.go next fuel k left out).toList.Perm (out.toList++left)
 |0,k,left,out,h=>by
  have:left=[]:=List.length_eq_zero_iff.mp h.symm
  subst this
  unfold pickOrder.go
  simp
 |fuel+1,k,left,out,h=>by
  unfold pickOrder.go
  have A4:next k%left.length<left.length:=Nat.mod_lt _ (by lia)
  rw [List.getElem?_eq_getElem A4]
  dsimp only
  refine (MF next fuel (k+1) _ _ (by rw [List.length_eraseIdx_of_lt A4];lia)).trans ?_
  rw [Array.toList_push,List.append_assoc]
  refine List.Perm.append_left _ ?_
  have key:∀(l:List α) (i:Nat) (hi:i<l.length),([l[i]]++l.eraseIdx i).Perm l:=by
   intro l
   induction l with
   |nil=>intro i hi;simp at hi
   |cons b l ih=>
    intro i hi
    cases i with
    |zero=>exact .refl _
    |succ i=>
     have:=ih i (by simpa using hi)
     simp only [List.getElem_cons_succ,List.eraseIdx_cons_succ,List.cons_append,List.nil_append]at this ⊢
     exact (List.Perm.swap _ _ _).trans (this.cons b)
  exact key _ _ A4
def Ei {α:Type} (w:World) (a:Addr) (ep:Nat) (es:Array α):Array α:=if w.params.followText "set-order"=true then pickOrder (w.params.setOrder a ep) es else es
theorem MS {α:Type} (w:World) (a:Addr) (ep:Nat) (es:Array α):(Ei w a ep es).toList.Perm es.toList:=by
 unfold Ei
 split
 ·unfold pickOrder
  have:=MF (w.params.setOrder a ep) es.size 0 es.toList #[] (by simp)
  simpa using this
 ·exact .refl _
theorem Il {α:Type} (w:World) (a:Addr) (ep:Nat) (es:Array α):(Ei w a ep es).size=es.size:=by
 rw [<-Array.length_toList,(MS w a ep es).length_eq,Array.length_toList]
def P6 (w:World) (t:SetTable) (slot i:Nat):Prop:=w.params.followText "set-order"=true\/SetTable.below t.place slot=i
section
variable {prog:Program}{w:World}{A:Around}{E:Value->Shared->Prop}{s:Shared}{a:Addr}{o:Obj}{es:Array (Int×Value)}{ep:Nat}{t:SetTable}
theorem LG {slot i:Nat} {Q:Option (Value×Nat)->Shared->Prop} (ho:s.heap.get? a=some o) (hd:o.data=.set es ep t) (hf:t.fits es.size=true) (up:t.place.toList.Pairwise (·<·)) (hpl:t.plain=true) (G0:t.led=Oo w) (hs:P6 w t slot i)
  (h1:∀e,(Ei w a ep es)[i]?=some e->∀Ki,P6 w t Ki (i+1)->Q (some (e.2,Ki)) s) (h2:(Ei w a ep es)[i]?=none->Q none s):wpAny (model prog w) A (setNext a slot i ep) Q E s:=by
 have ZW:t.place.size=es.size:=by
  unfold SetTable.fits at hf
  simp only [Bool.and_eq_true,beq_iff_eq]at hf
  exact hf.1
 unfold setNext
 refine wpAny_bind (wpAny_setState_of ho hd hf ?_)
 dsimp only
 refine wpAny_bind (m:=setsByText) (wpAny_bind (wpAny_askSetting (wpAny_pure ?_)))
 show wpAny _ _ (if w.params.followText "set-order"=true then _ else _) _ _ _
 by_cases hb:w.params.followText "set-order"=true
 ·rw [if_pos hb]
  rw [if_neg (by simp)]
  unfold setWalk
  refine wpAny_bind (wpAny_bind (wpAny_setState_of ho hd hf ?_))
  dsimp only
  refine wpAny_bind (m:=setsByText) (wpAny_bind (wpAny_askSetting (wpAny_pure ?_)))
  show wpAny _ _ (if w.params.followText "set-order"=true then _ else _) _ _ _
  rw [if_pos hb]
  refine wpAny_bind (wpAny_askSetting (wpAny_pure ?_))
  have eo:Ei w a ep es=pickOrder (w.params.setOrder a ep) es:=by unfold Ei;rw [if_pos hb]
  refine wpAny_pure ?_
  show Q (((pickOrder (w.params.setOrder a ep) es)[i]?).map fun e=>(e.2,slot)) s
  rw [<-eo]
  cases q:(Ei w a ep es)[i]? with
  |none=>exact h2 q
  |some e=>exact h1 e q slot (.inl hb)
 ·rw [if_neg hb]
  have eo:Ei w a ep es=es:=by unfold Ei;rw [if_neg hb]
  have jN:SetTable.below t.place slot=i:=by
   rcases hs with z|z
   ·exact absurd z hb
   ·exact z
  have iH:t.led=true:=by rw [G0];unfold Oo;rw [Bool.eq_false_iff.mpr hb];rfl
  rw [if_neg (by
   show ¬(!t.plain&&decide (es.size > 1))=true
   rw [hpl];simp)]
  refine wpAny_bind (wpAny_of_eq (a:=()) (by
   show (if (!t.led&&!es.isEmpty)=true then _ else _)=_
   rw [iH];rfl) ?_)
  refine wpAny_pure ?_
  rw [jN]
  rw [eo]at h1 h2
  cases q:es[i]? with
  |none=>exact h2 q
  |some e=>
   have hi:i<t.place.size:=by rw [ZW];exact (Array.getElem?_eq_some_iff.mp q).1
   rw [Array.getElem?_eq_getElem hi]
   dsimp only
   refine h1 e q _ (.inr ?_)
   obtain ⟨z1,z2,z3⟩:=Eu t.place (t.place[i]+1) up
   have ei:t.place[i]?=some t.place[i]:=Array.getElem?_eq_getElem hi
   have zD:i<SetTable.below t.place (t.place[i]+1):=by
    by_cases c:i<SetTable.below t.place (t.place[i]+1)
    ·exact c
    ·have:=z3 i (by lia) _ ei;lia
   by_cases c:i+1<t.place.size
   ·have e2:t.place[i+1]?=some t.place[i+1]:=Array.getElem?_eq_getElem c
    have A4:=List.pairwise_iff_getElem.mp up i (i+1) (by simpa using hi) (by simpa using c) (Nat.lt_succ_self _)
    simp only [Array.getElem_toList]at A4
    by_cases c2:i+1<SetTable.below t.place (t.place[i]+1)
    ·have:=z2 (i+1) c2 _ e2;lia
    ·lia
   ·lia
structure SIt (w:World) (h:Heap) (I a:Addr) (o:Obj) (es:Array (Int×Value)) (ep:Nat) (t:SetTable) (i:Nat):Prop where
 it:∃oi slot,h.get? I=some oi/\oi.cls=.type "set_iterator"/\oi.data=.fields #[.int (slot:Nat) 0,.int i 0,.ref a,.int es.size 0,.int ep 0]/\P6 w t slot i
 st:h.get? a=some o
theorem X5 (hh:A.handled=none) {I:Addr} (Co:a≠I) (hd:o.data=.set es ep t) (hf:t.fits es.size=true) (up:t.place.toList.Pairwise (·<·)) (hpl:t.plain=true) (G0:t.led=Oo w) {i:Nat} (hi:i<es.size) {Q:Option Value->Shared->Prop} (st:SIt w s.heap I a o es ep t i)
  (hQ:∀e h',(Ei w a ep es)[i]?=some e->SIt w h' I a o es ep t (i+1)->(∀b u,b≠I->s.heap.get? b=some u->h'.get? b=some u)->Q (some e.2) { s with heap:=h' }):wpAny (model prog w) A (pyNext (.ref I)) Q E s:=by
 obtain ⟨⟨oi,slot,h1,h2,h3,h4⟩,h5⟩:=st
 have hT:s.TypeIs (.ref I) "set_iterator":=⟨oi,h1,h2⟩
 unfold pyNext
 refine wpAny_bind (wpAny_attempt (wpAny_callSpecial?_slot (name:=Str.ofString "__next__") hT Hr (wpAny_call_entry Hr hT Pd ?_ (RP _))))
 unfold Builtin.«set_iterator.__next__»
 refine wpAny_bind (wpAny_pure ?_)
 refine wpAny_bind (wpAny_fieldsOf h1 h3 ?_)
 show wpAny _ _ (setEntries a >>= _) _ _ s
 refine wpAny_bind (wpAny_setEntries_of h5 hd hf ?_)
 rw [if_neg (by simp)]
 show wpAny _ _ (setNext a (slot:Int).toNat (i:Int).toNat (ep:Int).toNat >>= _) _ _ s
 simp only [Int.toNat_natCast]
 refine wpAny_bind (LG h5 hd hf up hpl G0 h4 (fun e he Ki Ts=>?_) fun hn=>?_)
 ·have rC:I<s.heap.objs.size:=Heap.lt_size h1
  refine wpAny_bind (wpAny_setField h1 h3 (by simp) ?_)
  have g1:=Heap.get?_update_self (Obj.mapFields (·.setIfInBounds 0 (rawInt Ki))) h1 (Obj.isFreed_of_fields (Obj.data_mapFields h3 _))
  refine wpAny_bind (wpAny_setField g1 (Obj.data_mapFields h3 _) (by simp) ?_)
  have g2:=Heap.get?_update_self (Obj.mapFields (·.setIfInBounds 1 (rawInt ((i:Int)+1)))) g1 (Obj.isFreed_of_fields (Obj.data_mapFields (Obj.data_mapFields h3 _) _))
  refine wpAny_pure ⟨_,rfl,wpAny_pure ?_⟩
  have other:∀b u,b≠I->s.heap.get? b=some u->((s.heap.update I (Obj.mapFields (·.setIfInBounds 0 (rawInt Ki)))).update I (Obj.mapFields (·.setIfInBounds 1 (rawInt ((i:Int)+1))))).get? b=some u:=fun b u hb e=>by
   have O5:I≠b:=Ne.symm hb
   rw [Heap.get?_update_other _ _ O5,Heap.get?_update_other _ _ O5]
   exact e
  refine hQ e _ he ⟨⟨_,Ki,g2,?_,?_,Ts⟩,other a o Co h5⟩ other
  ·rw [Obj.cls_mapFields,Obj.cls_mapFields];exact h2
  ·rw [Obj.data_mapFields (Obj.data_mapFields h3 _)]
   simp [rawInt]
 ·exfalso
  rw [Array.getElem?_eq_getElem (by rw [Il];exact hi)]at hn
  cases hn
theorem XC (hh:A.handled=none) {I:Addr} (hd:o.data=.set es ep t) (hf:t.fits es.size=true) (up:t.place.toList.Pairwise (·<·)) (hpl:t.plain=true) (G0:t.led=Oo w) {Q:Option Value->Shared->Prop} (st:SIt w s.heap I a o es ep t es.size)
  (hQ:∀h',(∀b u,b≠I->s.heap.get? b=some u->h'.get? b=some u)->Q none { s with heap:=h' }):wpAny (model prog w) A (pyNext (.ref I)) Q E s:=by
 obtain ⟨⟨oi,slot,h1,h2,h3,h4⟩,h5⟩:=st
 have hT:s.TypeIs (.ref I) "set_iterator":=⟨oi,h1,h2⟩
 unfold pyNext
 refine wpAny_bind (wpAny_attempt (wpAny_callSpecial?_slot (name:=Str.ofString "__next__") hT Hr (wpAny_call_entry Hr hT Pd ?_ (RP _))))
 unfold Builtin.«set_iterator.__next__»
 refine wpAny_bind (wpAny_pure ?_)
 refine wpAny_bind (wpAny_fieldsOf h1 h3 ?_)
 show wpAny _ _ (setEntries a >>= _) _ _ s
 refine wpAny_bind (wpAny_setEntries_of h5 hd hf ?_)
 rw [if_neg (by simp)]
 show wpAny _ _ (setNext a (slot:Int).toNat (es.size:Int).toNat (ep:Int).toNat >>= _) _ _ s
 simp only [Int.toNat_natCast]
 refine wpAny_bind (LG h5 hd hf up hpl G0 h4 (fun e he Ki Ts=>?_) fun hn=>?_)
 ·exfalso
  have:=(Array.getElem?_eq_some_iff.mp he).1
  rw [Il]at this
  exact Nat.lt_irrefl _ this
 ·dsimp only
  refine wpAny_bind (wpAny_setField h1 h3 (by simp) ?_)
  refine wpAny_bind ?_
  simp only [newExc,newTuple]
  refine wpAny_bind (wpAny_newObj_type ?_ (by size_fits))
  refine wpAny_bind (m:=firstArgMember _ _) (wpAny_of_eq (a:=Value.none) (by first|rfl|(simp only [firstArgMember];rfl)) ?_)
  refine wpAny_newObj_type ?_ (by size_fits)
  simp only [raiseNew]
  refine wpAny_bind (wpAny_handled ?_)
  rw [show A.in1.handled=none from hh]
  refine wpAny_bind (wpAny_pure (wpAny_throw ?_))
  refine wpAny_bind (wpAny_isInstance (T:="StopIteration") (b:=true) ⟨_,Heap.get?_push_size _ rfl,rfl⟩ isSubtype_stop ?_)
  refine wpAny_pure (hQ _ fun b u hb e=>?_)
  exact (((Heap.SameBut.update ..).extBut.push _).push _) b u hb e
theorem OF:entryFor table "list.extend.loop"=some Builtin.«list.extend.loop»:=entryFor_of_tree (by kernel_rfl)
theorem Ht:plainId "list.extend.loop"=true:=by decide +kernel
theorem Wi {R:Result->Shared->Prop} {I S:Addr} (hh:A.in1.handled=none) (Co:a≠I) (tU:S≠a) (UZ:S≠I) (hd:o.data=.set es ep t) (hf:t.fits es.size=true) (up:t.place.toList.Pairwise (·<·)) (hpl:t.plain=true) (G0:t.led=Oo w) (hn:es.size≤77) :
  ∀(n i:Nat) (s:Shared) (acc:Array Value) (c:Nat),es.size-i=n->i≤es.size->SIt w s.heap I a o es ep t i->s.heap.get? S=some { cls:=.type "list",data:=.seq acc c }->acc.toList=((Ei w a ep es).toList.take i).map (·.2) →
   (∀h' c',(∀b u,b≠S->b≠I->s.heap.get? b=some u->h'.get? b=some u)->h'.get? S=some { cls:=.type "list",data:=.seq ((Ei w a ep es).toList.map (·.2)).toArray c' }->R (.ok (.ret (.ref S))) { s with heap:=h' }) →
   codeAny (model prog w) A (.builtin "list.extend.loop" ⟨[.ref S,.ref I,.ref S],[]⟩) R s:=by
 have Ju:=Il w a ep es
 have CG:∀n,n≤77->n≤sizeLine:=fun n hn=>Nat.le_trans hn (by rw [sizeLine_eq];decide)
 intro n
 induction n with
 |zero=>
  intro i s acc c hk hi st hS Hi hR
  obtain rfl:i=es.size:=by lia
  refine codeAny_builtin OF ?_
  rw [Around.under_plainId Ht _]
  refine wpAny_bind (m:=pyNext (.ref I)) (XC hh hd hf up hpl G0 st fun h' Dp=>?_)
  refine wpAny_pure (hR h' c (fun b u _ hb e=>Dp b u hb e) ?_)
  rw [Dp S _ UZ hS]
  have:acc=((Ei w a ep es).toList.map (·.2)).toArray:=by
   rw [<-Ju,<-Array.length_toList,List.take_length]at Hi
   rw [<-Hi]
  rw [this]
 |succ n ih=>
  intro i s acc c hk hi st hS Hi hR
  have A4:i<es.size:=by lia
  refine codeAny_builtin OF ?_
  rw [Around.under_plainId Ht _]
  refine wpAny_bind (m:=pyNext (.ref I)) (X5 hh Co hd hf up hpl G0 A4 st fun e h1 he BS Mx=>?_)
  have Yn:=Mx S _ UZ hS
  have fE:acc.size=i:=by
   rw [<-Array.length_toList,Hi,List.length_map,List.length_take,Array.length_toList,Ju]
   lia
  show wpAny _ A.in1 (updateSeq S (·.push e.2) >>= _) _ _ _
  refine wpAny_bind (wpAny_updateSeq (s:={ s with heap:=h1 }) Yn rfl ?_ (by rw [fE];exact CG _ (by lia)) (by
   show (acc.push e.2).size≤sizeLine+1
   rw [Array.size_push,fE]
   have:=CG i (by lia)
   lia))
  have g1:=Heap.get?_update_self (Obj.mapSeq (·.push e.2)) Yn rfl
  have Qx:∀b u,b≠S->h1.get? b=some u->(h1.update S (Obj.mapSeq (·.push e.2))).get? b=some u:=fun b u hb q=>(Heap.get?_update_other _ _ (Ne.symm hb)).trans q
  refine wpAny_pure ⟨plainId_quiet Ht _,ih (i+1) _ (acc.push e.2) _ (by lia) A4 ?_ g1 ?_ fun h' c' Dp Ln=>hR h' c' (fun b u QC ZG q=>Dp b u QC ZG (Qx b u QC (Mx b u ZG q))) Ln⟩
  ·obtain ⟨⟨oi,slot,z1,z2,z3,z4⟩,z5⟩:=BS
   exact ⟨⟨oi,slot,Qx _ _ (Ne.symm UZ) z1,z2,z3,z4⟩,Qx _ _ (Ne.symm tU) z5⟩
  ·have aV:(Ei w a ep es).toList[i]?=some e:=by rw [Array.getElem?_toList];exact he
   rw [Array.toList_push,Hi,List.take_add_one,aV,List.map_append]
   rfl
end
theorem M4 {M:Model} {A:Around} {E:Value->Shared->Prop} {s:Shared} {Q:Bool->Shared->Prop} (h:∀b,Q b s):wpAny M A setsByText Q E s:=by
 unfold setsByText
 exact wpAny_bind (wpAny_askSetting (wpAny_pure (h _)))
theorem Uz {α β:Type} {l' l:List α} (p:l'.Perm l):∀(m:List β),m.length=l.length->∃m',m'.Perm m/\m'.length=l'.length/\(l'.zip m').Perm (l.zip m):=by
 induction p with
 |nil=>intro m hm;exact ⟨m,.refl _,hm,.refl _⟩
 |cons x p ih=>
  intro m hm
  cases m with
  |nil=>simp at hm
  |cons b m=>
   obtain ⟨m',h1,h2,h3⟩:=ih m (by simpa using hm)
   exact ⟨b::m',h1.cons b,by simp [h2],h3.cons _⟩
 |swap x y l=>
  intro m hm
  match m,hm with
  |[],hm=>simp at hm
  |[_],hm=>simp at hm
  |b::c::m,hm=>
   exact ⟨c::b::m,.swap _ _ _,by simpa using hm,.swap _ _ _⟩
 |trans p q yB sZ=>
  intro m hm
  obtain ⟨m1,h1,h2,h3⟩:=sZ m hm
  obtain ⟨m2,h4,h5,h6⟩:=yB m1 h2
  exact ⟨m2,h4.trans h1,h5,h6.trans h3⟩
section
variable {prog:Program}{w:World}{K:Type} [DecidableEq K] {knd:EK prog w K}{A:Around}{E:Value->Shared->Prop}{s:Shared}
theorem QN {a:Addr} {o:Obj} {es:Array (Int×Value)} {ep:Nat} {t:SetTable} {Q:Value->Shared->Prop} (ho:s.heap.get? a=some o) (hex:o.ExactSet) (hd:o.data=.set es ep t) (hf:t.fits es.size=true) (hpl:t.plain=true)
  (h:Q (.ref s.heap.objs.size) { s with heap:=s.heap.push { cls:=.type "set_iterator",data:=.fields #[.int (0:Nat) 0,.int (0:Nat) 0,.ref a,.int es.size 0,.int ep 0] } }):wpAny (model prog w) A (pyIter (.ref a)) Q E s:=by
 have hT:s.TypeIs (.ref a) "set":=⟨o,ho,hex.1⟩
 refine wpAny_pyIter_slot hT F.slot_set_iter (wpAny_call_entry F.slot_set_iter hT KD ?_ (F.args_set_iter_1 _))
 unfold Builtin.«frozenset.__iter__»
 refine wpAny_bind (wpAny_pure ?_)
 refine wpAny_bind ?_
 unfold Builtin.Frozenset.sizeOf
 refine wpAny_bind (wpAny_setEntries_of ho hd hf (wpAny_pure ?_))
 refine wpAny_bind ?_
 unfold setDrawn
 refine wpAny_bind (wpAny_setState_of ho hd hf ?_)
 dsimp only
 refine wpAny_bind (M4 fun bt=>?_)
 refine wpAny_pure ?_
 rw [if_neg (by
  show ¬(!bt&&(!t.plain&&decide (es.size > 1)))=true
  rw [hpl];simp)]
 refine wpAny_bind ?_
 refine wpAny_pure ?_
 refine wpAny_bind (wpAny_setEpoch_of ho hd hf ?_)
 unfold newFields
 refine wpAny_bind (wpAny_newObj_type (wpAny_pure ⟨_,rfl,"set_iterator",_,⟨_,Heap.get?_push_size _ rfl,rfl⟩,Hr.lookup,?_⟩) (by size_fits))
 simpa [rawInt]using h
theorem Na {a:Addr} {ks:List K} {Q:List Value->Shared->Prop} (hh:A.handled=none) (S:SetAt knd s.heap a ks)
  (h:∀(h':Heap) (Fu:List K) (vs:List Value),Fu.Perm ks->vs.length=Fu.length->(∀(i:Nat) k v,Fu[i]?=some k->vs[i]?=some v->knd.is h' k v)->(∀b o,s.heap.get? b=some o->h'.get? b=some o)->Q vs { s with heap:=h' }):wpAny (model prog w) A (collect (.ref a)) Q E s:=by
 obtain ⟨o,es,ep,t,ho,hex,hd,T,hc,hpl,G0⟩:=S
 obtain ⟨d7,Ye,gW⟩:=NQ hc
 have hf:=T.fits (by lia)
 have pF:es.size≤77:=by rcases hc with ⟨_,z⟩|⟨_,z⟩|⟨_,z⟩<;>lia
 have up:t.place.toList.Pairwise (·<·):=by
  obtain ⟨js,T1,e1,e2⟩:=T.ex
  have:=T1.up
  rw [EZ (by rw [e2,List.length_map,Array.length_toList])]at this
  rw [e1];exact this
 have eZ:a<s.heap.objs.size:=Heap.lt_size ho
 unfold collect
 refine wpAny_bind (wpAny_runValue (codeAny_builtin F.entry_proto_collect ?_))
 rw [Around.under_plainId F.plain_proto_collect _]
 refine wpAny_bind (m:=newList []) (wpAny_newObj_type ?_)
 refine wpAny_pure ⟨plainId_quiet F.plain_list_iadd _,codeAny_builtin F.entry_list_iadd ?_⟩
 rw [Around.under_plainId F.plain_list_iadd _]
 show wpAny _ A.in1 (Builtin.List.listExtendWith (.ref s.heap.objs.size) (.ref a) _) _ _ _
 unfold Builtin.List.listExtendWith
 generalize iL:({ cls:=.type "list",data:=.seq ([]:List Value).toArray }:Obj)=ol
 have N7:(s.heap.push ol).get? a=some o:=Heap.get?_push_of_some _ ho
 have yZ:Shared.TypeIs { s with heap:=s.heap.push ol } (.ref a) "set":=⟨o,N7,hex.1⟩
 refine wpAny_bind (wpAny_typeOf yZ ?_)
 have z1:Builtin.List.listSameRef (.ref s.heap.objs.size) (.ref a)=false:=by
  have:s.heap.objs.size≠a:=Nat.ne_of_gt eZ
  simp [Builtin.List.listSameRef,this]
 have z2:(Value.type "set"==Value.type "list")=false:=by decide
 have z3:(Value.type "set"==Value.type "tuple")=false:=by decide
 simp only [z1,z2,z3,Bool.or_false,Bool.false_eq_true,if_false]
 refine wpAny_bind (QN (s:={ s with heap:=s.heap.push ol }) N7 hex hd hf hpl ?_)
 generalize US:({ cls:=.type "set_iterator",data:=.fields #[.int (0:Nat) 0,.int (0:Nat) 0,.ref a,.int es.size 0,.int ep 0] }:Obj)=oi
 have hI:({ s with heap:=s.heap.push ol }:Shared).heap.objs.size=s.heap.objs.size+1:=Heap.size_push ..
 rw [hI]
 have WR:((s.heap.push ol).push oi).get? a=some o:=Heap.get?_push_of_some _ N7
 have ju:Shared.TypeIs { s with heap:=(s.heap.push ol).push oi } (.ref a) "set":=⟨o,WR,hex.1⟩
 refine wpAny_bind (wpAny_holding ?_)
 unfold Builtin.List.listLengthHint
 refine wpAny_bind (wpAny_specialOf ju F.slot_set_len.lookup ?_)
 show wpAny _ _ (isInstance (.ref a) (.type "set") >>= _) _ _ _
 refine wpAny_bind (wpAny_isInstance ju sub_set_self ?_)
 rw [if_neg (by simp)]
 show wpAny _ _ (if _=true then (typeOf (.ref a) >>= _)else _) _ _ _
 rw [if_pos (by decide +kernel)]
 refine wpAny_bind (wpAny_typeOf ju (wpAny_pure ?_))
 rw [if_pos (by decide +kernel)]
 refine wpAny_bind (wpAny_rule ?_)
 subst iL
 have Yn:((s.heap.push ({ cls:=.type "list",data:=.seq ([]:List Value).toArray }:Obj)).push oi).get? s.heap.objs.size=some ({ cls:=.type "list",data:=.seq ([]:List Value).toArray }:Obj):=Heap.get?_push_of_some _ (Heap.get?_push_size _ rfl)
 refine wpAny_bind ?_
 show wpAny _ A.in1 (updateSeq s.heap.objs.size (·.push .none) >>= fun _=>updateSeq s.heap.objs.size _) _ _ _
 refine wpAny_bind (wpAny_updateSeq Yn rfl ?_)
 have g1:=Heap.get?_update_self (Obj.mapSeq (·.push Value.none)) Yn rfl
 refine wpAny_updateSeq g1 rfl ?_
 have g2:=Heap.get?_update_self (Obj.mapSeq (·.pop)) g1 rfl
 have Qx:∀b u,b≠s.heap.objs.size->((s.heap.push ({ cls:=.type "list",data:=.seq ([]:List Value).toArray }:Obj)).push oi).get? b=some u->((((s.heap.push ({ cls:=.type "list",data:=.seq ([]:List Value).toArray }:Obj)).push oi).update s.heap.objs.size (Obj.mapSeq (·.push Value.none))).update s.heap.objs.size (Obj.mapSeq (·.pop))).get? b=some u:=fun b u hb e=>
  (Heap.get?_update_other _ _ (Ne.symm hb)).trans ((Heap.get?_update_other _ _ (Ne.symm hb)).trans e)
 have gI:a≠s.heap.objs.size:=Nat.ne_of_lt eZ
 have UZ:s.heap.objs.size≠s.heap.objs.size+1:=Nat.ne_of_lt (Nat.lt_succ_self _)
 have oW:((s.heap.push ({ cls:=.type "list",data:=.seq ([]:List Value).toArray }:Obj)).push oi).get? (s.heap.objs.size+1)=some oi:=by
  have:=Heap.get?_push_size (s.heap.push ({ cls:=.type "list",data:=.seq ([]:List Value).toArray }:Obj)) (o:=oi) (by rw [<-US];rfl)
  rw [Heap.size_push]at this
  exact this
 refine wpAny_pure ⟨plainId_quiet Ht _,Wi (A:=A) (by simp [hh]) (Nat.ne_of_lt (Nat.lt_succ_of_lt eZ)) (Ne.symm gI) UZ hd hf up hpl G0 pF (es.size-0) 0 _ _ _ rfl (Nat.zero_le _) ?_ g2 ?_ fun h' c' hk Ln=>?_⟩
 ·refine ⟨⟨oi,0,Qx _ _ (Ne.symm UZ) oW,by rw [<-US],by rw [<-US],.inr ?_⟩,Qx _ _ gI WR⟩
  have z:=Eu t.place 0 up
  by_cases c:SetTable.below t.place 0=0
  ·exact c
  ·have hz:0<t.place.size:=by lia
   have:=z.2.1 0 (by lia) _ (Array.getElem?_eq_getElem hz)
   lia
 ·simp
 ·have keep:∀b u,s.heap.get? b=some u->h'.get? b=some u:=fun b u e=>by
   have hb:=Heap.lt_size e
   exact hk b u (Nat.ne_of_lt hb) (Nat.ne_of_lt (Nat.lt_succ_of_lt hb)) (Qx b u (Nat.ne_of_lt hb) (Heap.get?_push_of_some _ (Heap.get?_push_of_some _ e)))
  refine wpAny_bind (m:=load s.heap.objs.size) (wpAny_load Ln (wpAny_pure ?_))
  obtain ⟨Fu,pm,hl,Kk⟩:=T.els
  have sr:=MS w a ep es
  obtain ⟨fG,jI,Wh,kL⟩:∃fG:List K,fG.Perm Fu/\fG.length=(Ei w a ep es).size/\∀(i:Nat) k e,fG[i]?=some k->(Ei w a ep es)[i]?=some e->ElP knd s.heap k e:=by
   obtain ⟨m',p1,p2,p3⟩:=Uz sr Fu (by rw [hl,Array.length_toList])
   refine ⟨m',p1,by rw [p2,Array.length_toList],fun i k e h1 h2=>?_⟩
   have hm:(e,k)∈(Ei w a ep es).toList.zip m':=by
    refine List.mem_of_getElem? (i:=i) ?_
    rw [List.getElem?_zip_eq_some]
    exact ⟨by rw [Array.getElem?_toList];exact h2,h1⟩
   obtain ⟨j,hj,ej⟩:=List.getElem_of_mem (p3.mem_iff.mp hm)
   have je:(es.toList.zip Fu)[j]?=some (e,k):=by rw [List.getElem?_eq_getElem hj,ej]
   rw [List.getElem?_zip_eq_some]at je
   exact Kk j k e je.2 (by rw [<-Array.getElem?_toList];exact je.1)
  refine h h' fG _ (jI.trans pm) (by simp [Wh]) (fun i k v h1 h2=>?_) keep
  have h3:((Ei w a ep es).toList.map (·.2))[i]?=some v:=h2
  rw [List.getElem?_map]at h3
  obtain ⟨e,he,rfl⟩:=Option.map_eq_some_iff.mp h3
  exact knd.keeps (kL i k e h1 (by rw [<-Array.getElem?_toList];exact he)).is fun b u q _ _=>keep b u q
end
end TF
namespace TF
open PySem PySem.Spec L2
open PyProof.Rows hiding St RelV
section
variable {prog:Program}{w:World}{A:Around}{E:Value->Shared->Prop}{s:Shared}
def SqAt (h:Heap) (p:Sq) (u:Value):Prop:=∃a,u=.ref a/\SH h (sq p) a
theorem SqAt.items {h:Heap} {p:Sq} {u:Value} (x:SqAt h p u):∃a o n t1 t2,u=.ref a/\h.get? a=some o/\o.cls=.type "tuple"/\o.data=.seq #[.int p.1 t1,.int p.2 t2] n:=by
 obtain ⟨a,rfl,hk,r⟩:=x
 unfold sq at r
 rw [AtH]at r
 obtain ⟨b,us,e,ht,hl⟩:=r
 cases e
 rw [AtL]at hl
 obtain ⟨u1,r1,rfl,h1,hl⟩:=hl
 rw [AtL]at hl
 obtain ⟨u2,r2,rfl,h2,hl⟩:=hl
 rw [AtL]at hl
 subst hl
 rw [AtH]at h1 h2
 obtain ⟨t1,rfl⟩:=h1
 obtain ⟨t2,rfl⟩:=h2
 obtain ⟨o,ho,hc,n,hd⟩:=ht
 exact ⟨a,o,n,t1,t2,rfl,ho,hc,hd⟩
theorem SqAt.mk {h:Heap} {p:Sq} {a:Addr} {o:Obj} {n:Nat} {t1 t2:Tok} (ho:h.get? a=some o) (hc:o.cls=.type "tuple") (hd:o.data=.seq #[.int p.1 t1,.int p.2 t2] n):SqAt h p (.ref a):=by
 refine ⟨a,rfl,E1 p,?_⟩
 unfold sq
 rw [AtH]
 refine ⟨a,[.int p.1 t1,.int p.2 t2],rfl,⟨o,ho,hc,n,hd⟩,?_⟩
 simp only [AtL,AtH]
 exact ⟨_,_,rfl,⟨_,rfl⟩,_,_,rfl,⟨_,rfl⟩,rfl⟩
theorem SqAt.key {h:Heap} {p:Sq} {u:Value} (x:SqAt h p u):∃a,u=.ref a/\SH h (sq p) a:=x
theorem Ow {p:Sq} {u:Value} {Q:Bool->Shared->Prop} (x:SqAt s.heap p u) (h:Q true s):wpAny (model prog w) A (eqIsQuiet 8 u) Q E s:=by
 obtain ⟨a,rfl,hk⟩:=x
 exact (Dq prog w).quiet hk h
theorem Kc {p:Sq} {u:Value} {Q:Bool->Shared->Prop} (x:SqAt s.heap p u) (h:Q false s):wpAny (model prog w) A (ofAClassStatement 8 u) Q E s:=by
 obtain ⟨a,o,n,t1,t2,rfl,ho,hc,hd⟩:=x.items
 have hT:s.TypeIs (.ref a) "tuple":=⟨o,ho,hc⟩
 unfold ofAClassStatement
 refine wpAny_bind (wpAny_typeOf hT ?_)
 dsimp only
 refine wpAny_bind (wpAny_pure ?_)
 simp only [Bool.not_true,Bool.false_eq_true,if_false]
 refine wpAny_bind (wpAny_seqItems ho hd ?_)
 dsimp only
 refine wpAny_bind ?_
 rw [<-Array.forIn_toList]
 simp only [List.forIn_cons,List.forIn_nil,ofAClassStatement,pure_bind,Bool.false_eq_true,if_false]
 exact wpAny_pure (wpAny_pure h)
theorem Q9 {p:Sq} {u:Value} {Q:Bool->Shared->Prop} (x:SqAt s.heap p u) (h:Q true s):wpAny (model prog w) A (hashByValue 8 u) Q E s:=by
 obtain ⟨a,o,n,t1,t2,rfl,ho,hc,hd⟩:=x.items
 have hT:s.TypeIs (.ref a) "tuple":=⟨o,ho,hc⟩
 unfold hashByValue
 refine wpAny_bind (wpAny_specialOf hT F.slot_tuple_hash.lookup ?_)
 dsimp only
 refine wpAny_bind (wpAny_seqItems ho hd ?_)
 refine wpAny_bind ?_
 show wpAny _ _ (forIn #[_,_] _ _) _ _ _
 rw [<-Array.forIn_toList]
 simp only [List.forIn_cons,List.forIn_nil,hashByValue,pure_bind,Bool.not_true,Bool.false_eq_true,if_false]
 exact wpAny_pure (wpAny_pure h)
theorem S4 {p:Sq} {u:Value} {vs:List Value} {Q:Bool->Shared->Prop} (x:SqAt s.heap p u) (hv:∀v∈vs,∃y,SqAt s.heap y v) (h:Q false s):wpAny (model prog w) A (searchCouldBeSeen u vs) Q E s:=by
 unfold searchCouldBeSeen
 refine wpAny_bind ?_
 refine wpAny_forIn_list _ (fun rest r s'=>r.1=none/\s'=s/\∀v∈rest,∃y,SqAt s.heap y v) _ ?_ ?_ _ _ ⟨rfl,rfl,hv⟩
 ·rintro v rest r s' ⟨hr,rfl,Eo⟩
  obtain ⟨y,hy⟩:=Eo v List.mem_cons_self
  have ZT:∀v∈rest,∃y,SqAt s'.heap y v:=fun v hv=>Eo v (List.mem_cons_of_mem _ hv)
  obtain ⟨a',eu,_⟩:=x.key
  obtain ⟨b',ev,_⟩:=hy.key
  subst eu
  subst ev
  dsimp only
  split
  ·exact wpAny_pure (show _/\_ from ⟨rfl,rfl,ZT⟩)
  ·refine wpAny_bind (Ow x ?_)
   simp only [Bool.not_true,Bool.false_eq_true,if_false]
   refine wpAny_bind (Ow hy ?_)
   simp only [Bool.not_true,Bool.false_eq_true,if_false]
   refine wpAny_bind (Kc x ?_)
   simp only [Bool.false_eq_true,if_false]
   refine wpAny_bind (Kc hy ?_)
   simp only [Bool.false_eq_true,if_false]
   exact wpAny_pure (show _/\_ from ⟨rfl,rfl,ZT⟩)
 ·rintro ⟨r1,r2⟩ s' ⟨hr,rfl,_⟩
  simp only at hr
  subst hr
  exact wpAny_pure h
def dO (prog:Program) (w:World) (P:Sq->Value->Prop):EK prog w Sq where
 is:=fun h p u=>SqAt h p u/\P p u
 hash:=fun p=>Dm (sq p)
 room:=fun A=>A.units+6<cLine
 noscan:=fun x=>by obtain ⟨⟨a,rfl,_⟩,_⟩:=x;rfl
 eqBool:=@fun A E s p q u v Q hu hx hy h=>by
  obtain ⟨⟨a,rfl,hx⟩,_⟩:=hx
  obtain ⟨⟨b,rfl,hy⟩,_⟩:=hy
  refine (Dq _ _).eqBool hu hx hy ?_
  by_cases e:p=q
  ·subst e;simpa using h
  ·have e':sq p≠sq q:=fun z=>e (Gj z)
   rw [decide_eq_false e'] ;rw [decide_eq_false e]at h;exact h
 byValue:=fun x h=>Q9 x.1 h
 unseen:=fun x hv h=>S4 x.1 (fun v Zm=>let ⟨y,hy⟩:=hv v Zm;⟨y,hy.1⟩) h
 pyHash:=fun hu hx h=>by
  obtain ⟨⟨a,rfl,hx⟩,_⟩:=hx
  exact (Dq _ _).pyHash hu hx (h _)
 keeps:=fun x hk=>by
  obtain ⟨x,hp⟩:=x
  obtain ⟨a,o,n,t1,t2,rfl,ho,hc,hd⟩:=x.items
  exact ⟨.mk (hk a o ho (fun es ep t e=>by rw [hd]at e;cases e) fun vs e=>by rw [hd]at e;cases e) hc hd,hp⟩
end
def IB:List Sq:=(List.range 8).flatMap fun (i:Nat)=>(List.range 8).map fun (j:Nat)=>((i:Int),(j:Int))
theorem Sj {p:Sq} (h:0≤p.1/\p.1≤7/\0≤p.2/\p.2≤7):p∈IB:=by
 obtain ⟨a,b⟩:=p
 simp only at h
 obtain ⟨x,rfl⟩:=Int.eq_ofNat_of_zero_le h.1
 obtain ⟨y,rfl⟩:=Int.eq_ofNat_of_zero_le h.2.2.1
 unfold IB
 rw [List.mem_flatMap]
 exact ⟨x,List.mem_range.mpr (by lia),List.mem_map.mpr ⟨y,List.mem_range.mpr (by lia),rfl⟩⟩
def RB (p:Sq):Int:=reduceHash (Builtin.Tuple.tupleHashOf [hashInt p.1,hashInt p.2])
theorem XU (p:Sq):Dm (sq p)=RB p:=by
 unfold sq RB
 simp only [Dm,DX]
theorem PC:(IB.map RB).Nodup:=by decide +kernel
theorem QL:(IB.map fun p=>Dm (sq p)).Nodup:=by
 rw [show (fun p=>Dm (sq p))=RB from funext XU]
 exact PC
theorem Tt:∀k∈IB,∀k'∈IB,Dm (sq k')=Dm (sq k)->k'=k:=by
 intro k hk k' Dp e
 have h:=QL
 unfold List.Nodup at h
 rw [List.pairwise_map]at h
 refine Classical.byContradiction fun ne=>?_
 obtain ⟨i,hi,ei⟩:=List.getElem_of_mem hk
 obtain ⟨j,hj,ej⟩:=List.getElem_of_mem Dp
 rcases Nat.lt_trichotomy i j with c|c|c
 ·exact List.pairwise_iff_getElem.mp h i j hi hj c (by rw [ei,ej];exact e.symm)
 ·subst c;exact ne (by rw [<-ei,<-ej])
 ·exact List.pairwise_iff_getElem.mp h j i hj hi c (by rw [ei,ej];exact e)
theorem Rq {h:Heap}:∀{l:List Sq} {us:List Value},AtL h (l.map sq) us->us.length=l.length/\∀(j:Nat) p v,l[j]?=some p->us[j]?=some v->AtH h (sq p) v
 |[],us,r=>by
  rw [List.map_nil,AtL]at r
  subst r
  exact ⟨rfl,fun j p v h=>by simp at h⟩
 |p::l,us,r=>by
  rw [List.map_cons,AtL]at r
  obtain ⟨u,q,rfl,h1,h2⟩:=r
  obtain ⟨z1,z2⟩:=Rq h2
  refine ⟨by simp [z1],fun j p' v hp hv=>?_⟩
  cases j with
  |zero=>simp at hp hv;subst hp;subst hv;exact h1
  |succ j=>exact z2 j p' v (by simpa using hp) (by simpa using hv)
theorem AtH.sqAt {h:Heap} {p:Sq} {u:Value} (r:AtH h (sq p) u):SqAt h p u:=by
 have r':=r
 unfold sq at r'
 rw [AtH]at r'
 obtain ⟨a,_,rfl,_,_⟩:=r'
 exact ⟨a,rfl,E1 p,r⟩
section
variable {X:Cx}{ρ:Rho}{G:Gs}{a:Expr}{l:List Sq}{pos p1 p2 p3:Pos}
theorem Rt {K:PySem.W.Frag} {H:Hp}:∀{ks:List Sq} {us:List Value},us.length=ks.length->(∀(i:Nat) k u,ks[i]?=some k->us[i]?=some u->∃v,RelV v u/\Rep K H (sq k) v)->∃vs,Tri K H (ks.map sq) vs us
 |[],us,hl,_=>by
  have:us=[]:=List.length_eq_zero_iff.mp hl
  subst this
  exact ⟨[],.nil⟩
 |k::ks,[],hl,_=>by simp at hl
 |k::ks,u::us,hl,h=>by
  obtain ⟨v,r,rep⟩:=h 0 k u rfl rfl
  obtain ⟨vs,t⟩:=Rt (ks:=ks) (us:=us) (by simpa using hl) fun i k' u' h1 h2=>h (i+1) k' u' (by simpa using h1) (by simpa using h2)
  exact ⟨v::vs,.cons rep r t⟩
end
section
variable {prog:Program}{w:World}{A:Around}{E:Value->Shared->Prop}{s:Shared}
theorem Gi {it t:Addr} {i:Nat} {items:Array Value} {x:Value} {Q:Value->Shared->Prop} (hit:s.heap.IsTupleIter it t i) (ht:s.heap.IsTuple t items) (hx:items[i]?=some x)
  (hQ:∀h',h'.IsTupleIter it t (i+1)->Heap.SameBut it s.heap h'->Q x { s with heap:=h' }):wpAny (model prog w) A (Builtin.SmallTypes.nextOf (.ref it)) Q E s:=by
 obtain ⟨oi,US,rW,YA⟩:=id hit
 obtain ⟨ot,kW,_,nt,kR⟩:=ht
 unfold Builtin.SmallTypes.nextOf
 refine wpAny_bind (wpAny_callSpecial?_slot (name:=Str.ofString "__next__") hit.typeIs F.slot_tuple_iterator_next (wpAny_call_entry F.slot_tuple_iterator_next hit.typeIs F.entry_tuple_iterator_next ?_ (F.args_tuple_iterator_next_1 _)))
 refine wpAny_bind (m:=field (.ref it) 0) (wpAny_field US YA (x:=.ref t) rfl ?_)
 rw [if_neg (show ¬((Value.ref t==Value.none)=true)from Bool.false_ne_true)]
 refine wpAny_bind (m:=field (.ref it) 1) (wpAny_field US YA (x:=.int i 0) rfl ?_)
 refine wpAny_bind (m:=seqItems? (.ref t)) (wpAny_seqItems kW kR ?_)
 simp only [Int.toNat_natCast,hx]
 refine wpAny_bind (wpAny_setField US YA (by simp) (wpAny_pure ⟨x,rfl,wpAny_pure (hQ _ ⟨_,Heap.get?_update_self _ US (Obj.isFreed_of_fields (Obj.data_mapFields YA _)),(Obj.cls_mapFields ..).trans rW,?_⟩ (Heap.SameBut.update ..))⟩))
 rw [Obj.data_mapFields YA]
 simp [rawInt]
theorem GI {it t:Addr} {i:Nat} {items:Array Value} {Q:Value->Shared->Prop} (hh:A.handled=none) (hit:s.heap.IsTupleIter it t i) (ht:s.heap.IsTuple t items) (hx:items[i]?=none)
  (hE:∀h' e,Heap.ExtBut it s.heap h'->(∃o,h'.get? e=some o/\o.cls=.type "StopIteration")->E (.ref e) { s with heap:=h' }):wpAny (model prog w) A (Builtin.SmallTypes.nextOf (.ref it)) Q E s:=by
 obtain ⟨oi,US,rW,YA⟩:=id hit
 obtain ⟨ot,kW,_,nt,kR⟩:=ht
 unfold Builtin.SmallTypes.nextOf
 refine wpAny_bind (wpAny_callSpecial?_slot (name:=Str.ofString "__next__") hit.typeIs F.slot_tuple_iterator_next (wpAny_call_entry F.slot_tuple_iterator_next hit.typeIs F.entry_tuple_iterator_next ?_ (F.args_tuple_iterator_next_1 _)))
 refine wpAny_bind (m:=field (.ref it) 0) (wpAny_field US YA (x:=.ref t) rfl ?_)
 rw [if_neg (show ¬((Value.ref t==Value.none)=true)from Bool.false_ne_true)]
 refine wpAny_bind (m:=field (.ref it) 1) (wpAny_field US YA (x:=.int i 0) rfl ?_)
 refine wpAny_bind (m:=seqItems? (.ref t)) (wpAny_seqItems kW kR ?_)
 simp only [Int.toNat_natCast,hx]
 refine wpAny_bind (wpAny_rule (wpAny_bind (wpAny_setField US YA (by simp) ?_)))
 refine wpAny_bind (m:=newExc (.type "StopIteration") []) ?_
 simp only [newExc,newTuple]
 refine wpAny_bind (wpAny_newObj_type ?_ (by size_fits))
 refine wpAny_bind (m:=firstArgMember _ _) (wpAny_of_eq (a:=Value.none) (by first|rfl|(simp only [firstArgMember];rfl)) ?_)
 refine wpAny_newObj_type ?_ (by size_fits)
 simp only [raiseNew]
 refine wpAny_bind (wpAny_handled ?_)
 first|rw [show A.in1.handled=none from hh]|rw [hh]
 exact wpAny_bind (wpAny_pure (wpAny_throw (hE _ _ (((Heap.SameBut.update ..).extBut.push _).push _) ⟨_,Heap.get?_push_size _ rfl,rfl⟩)))
theorem Oz (hh:A.handled=none) (it t:Addr) (Co:t≠it) (items:Array Value):Draws prog w A it [it,t] items.size (fun i v=>items[i]?=some v) (fun i h=>h.IsTupleIter it t i/\h.IsTuple t items) where
 live:=fun _ _ st=>let ⟨o,ho,_⟩:=st.1;⟨o,ho⟩
 frame:=fun _ _ _ st hk=>by
  obtain ⟨⟨o,ho,r⟩,⟨o2,WR,r2⟩⟩:=st
  exact ⟨⟨o,hk it (by simp) _ ho,r⟩,⟨o2,hk t (by simp) _ WR,r2⟩⟩
 item:=fun i s Q E hi st hQ=>Gi st.1 st.2 (x:=items[i]) (by simp [hi]) fun h' AO Ts=>hQ _ h' s.toks (by simp [hi]) ⟨AO,st.2.extBut Ts.extBut Co⟩ Ts
 done:=fun s Q E st hE=>GI hh st.1 st.2 (by simp) hE
theorem UB {e it t:Addr} {i j:Nat} {items:Array Value} {old:Value} {Q:Option Value->Shared->Prop} (hh:A.in1.handled=none) (he:IsEnum s.heap e it i old) (hit:s.heap.IsTupleIter it t j) (ht:s.heap.IsTuple t items) (hx:items[j]?=none)
  (hQ:∀h',Heap.ExtBut it s.heap h'->Q none { s with heap:=h' }):wpAny (model prog w) A (pyNext (.ref e)) Q E s:=by
 have hT:s.TypeIs (.ref e) "enumerate":=⟨_,he,rfl⟩
 unfold pyNext
 refine wpAny_bind (wpAny_attempt (wpAny_callSpecial?_slot (name:=Str.ofString "__next__") hT F.slot_enumerate_next (wpAny_call_entry F.slot_enumerate_next hT F.entry_enumerate_next ?_ (F.args_enumerate_next_1 _))))
 refine wpAny_bind (m:=field (.ref e) 2) (wpAny_field he rfl (x:=.ref it) rfl ?_)
 refine wpAny_bind (GI hh hit ht hx fun h' x aV t9=>?_)
 obtain ⟨o,ho,hc⟩:=t9
 exact wpAny_bind (wpAny_isInstance (T:="StopIteration") (b:=true) ⟨o,ho,hc⟩ isSubtype_stop (wpAny_pure (hQ _ aV)))
abbrev enO (it:Addr):Obj:={ cls:=.type "enumerate",data:=.fields #[.none,.bool false,.ref it,rawInt 0,.none,.none] }
abbrev tiO (t:Addr):Obj:={ cls:=.type "tuple_iterator",data:=.fields #[.ref t,.int 0 0] }
open AutoSeq1 (wpAny_loadPart') in
theorem N4 (l:Addr) (items:Array Value) (n:Nat) (dct:Option Addr) (sl:Array (Option Value)) :
  Meets (Builtin.«enumerate.__new__» ⟨[.type "enumerate",.ref l],[]⟩) (fun _ R s=>s.heap.get? l=some { cls:=.type "tuple",dict:=dct,data:=.seq items n,slots:=sl } ∧
   R (.ok (.ret (.ref (s.heap.push (tiO l)).objs.size))) { s with heap:=(s.heap.push (tiO l)).push (enO s.heap.objs.size) }):=
 .of_wp fun prog w A R s h=>by
  obtain ⟨hp,g,d,tk,os⟩:=s
  obtain ⟨hl,h⟩:=h
  have sb:=sub_enumerate
  have hT:Heap.IsTuple (Shared.heap ⟨hp,g,d,tk,os⟩) l items:=⟨_,hl,rfl,n,rfl⟩
  wp_walk using wpAny_loadPart' hl
  refine wpAny_stack_any fun st=>wpAny_pure ?_
  split
  ·rename_i c _ _ _ _ _
   cases (c==Value.type "enumerate")<;>(wp_walk using wpAny_loadPart' hl,wpAny_pyIter_tuple hT;exact ⟨_,rfl,h⟩)
  ·wp_walk using wpAny_loadPart' hl,wpAny_pyIter_tuple hT
   exact ⟨_,rfl,h⟩
theorem QT {l:Addr} {items:Array Value} {Q:Value->Shared->Prop} (hL:s.heap.IsTuple l items)
  (h:∀h',IsEnum h' (s.heap.objs.size+1) s.heap.objs.size 0 .none->h'.IsTupleIter s.heap.objs.size l 0->(∀b o,s.heap.get? b=some o->h'.get? b=some o)->Q (.ref (s.heap.objs.size+1)) { s with heap:=h' }) :
  wpAny (model prog w) A (call (.type "enumerate") [.ref l]) Q E s:=by
 obtain ⟨⟨c,dct,dt,sl⟩,hl,hc,n,hd⟩:=hL
 obtain rfl:c=.type "tuple":=hc
 obtain rfl:dt=.seq items n:=hd
 refine callType_new F.called_enumerate (by decide) (F.typeCall_enumerate_1 _) (F.newCall_enumerate_1 _) (fun obj=>F.args_object_init_2 obj _) F.entry_enumerate_new (N4 l items n dct sl) ⟨hl,?_⟩
 have hz:(s.heap.push (tiO l)).objs.size=s.heap.objs.size+1:=Heap.size_push ..
 show _/\_
 rw [hz]
 have he:IsEnum ((s.heap.push (tiO l)).push (enO s.heap.objs.size)) (s.heap.objs.size+1) s.heap.objs.size 0 .none:=by
  have:=Heap.get?_push_size (s.heap.push (tiO l)) (o:=enO s.heap.objs.size) rfl
  rw [hz]at this
  exact this
 exact ⟨⟨_,he,rfl⟩,h _ he ⟨_,Heap.get?_push_of_some _ (Heap.get?_push_size _ rfl),rfl,rfl⟩ fun b o x=>Heap.get?_push_of_some _ (Heap.get?_push_of_some _ x)⟩
end
def Ite (K:PySem.W.Frag) (a:Addr):It:=
 ⟨fun i H=>∃xs x,SqT K H a xs/\xs[i]?=some x,fun i H x H'=>∃y T,H T=none/\x=.ref T/\H'=upd H T (.tup [.int i,y])/\∀xs,SqT K H a xs->xs[i]?=some y,fun i H=>∃xs,SqT K H a xs/\xs.length≤i⟩
theorem UG {P:Program} {w:World} {K:PySem.W.Frag} {elts:List Expr} {x1:Nat} {pos:Pos} (a e it:Addr) (cb:e≠it) (mH:a≠it) (qf:a≠e):Turn P w K (.Tuple elts x1 pos) (Ite K a) [e,it] e (fun i h=>(∃old,IsEnum h e it i old)/\h.IsTupleIter it a i) where
 mem:=by simp
 obj:=fun i h st b hb=>by
  obtain ⟨⟨old,he⟩,o,ho,c,d⟩:=st
  rcases List.mem_cons.mp hb with rfl|hb
  ·exact ⟨_,he,fun v z=>by cases z⟩
  ·rw [List.mem_singleton.mp hb]
   exact ⟨o,ho,fun v z=>by rw [d]at z;cases z⟩
 keep:=fun i h h' st k=>by
  obtain ⟨⟨old,he⟩,o,ho,r⟩:=st
  exact ⟨⟨old,k e (by simp) _ he⟩,o,k it (by simp) _ ho,r⟩
 item:=by
  intro X hP hw hK hc i pins s σ H E I hf st hg
  subst hP hw hK
  obtain ⟨xs,x,hq,hx⟩:=hg
  obtain ⟨its,rv,p,hz⟩:=I.tuple hq
  obtain ⟨u,hu,ru⟩:=rv.get hx
  obtain ⟨⟨old,he⟩,hit⟩:=st
  have A4:i<its.toArray.size:=by simpa using (List.getElem?_eq_some_iff.mp hu).1
  refine wpAny_pyNext_enum_itemD (Oz (A:=X.A.in1) (by simpa using I.ok.hd hc) it a mH its.toArray) he ⟨hit,p⟩ A4 cb (by simp [cb,qf,Ne.symm qf]) fun y h1 tk hy ho BS hT hsz hk=>?_
  have fY:y=u:=by
   have:its.toArray[i]?=some u:=by simpa using hu
   rw [this]at hy
   exact (Option.some.inj hy).symm
  subst fY
  refine ⟨_,rfl,wpAny_letOwnedTupleGo_enum (s:={ s with heap:=h1,toks:=tk+1 }) ho fun h2 he2 sb=>?_⟩
  have LV:∀b o,b≠e->h1.get? b=some o->h2.get? b=some o:=fun b o hb q=>sb.extBut b o hb q
  have MO:H s.heap.objs.size=none:=I.hok.fresh (Nat.le_refl _)
  have Kk:e<s.heap.objs.size:=Heap.lt_size he
  have Vk:s.heap.objs.size≠e:=Nat.ne_of_gt Kk
  have Dr:∀b o,b≠e->b≠it->s.heap.get? b=some o->h2.get? b=some o:=fun b o h3 h4 q=>LV b o h3 (hk b o h3 h4 q)
  have f1:=hf e (by simp)
  have f2:=hf it (by simp)
  have Lu:∀b o,H b=some o->b≠e/\b≠it:=fun b o q=>⟨AK q f1.1,AK q f2.1⟩
  have un:Un (frs X.stack) [e,it] H (upd H s.heap.objs.size (.tup [.int i,x])) s.heap h2:=by
   refine ⟨fun b o q n hb hc=>?_,fun b o q n hb hc=>⟨o.slots,?_⟩,fun b o q n hc=>?_,fun b o q hc=>⟨o,?_⟩,fun b ys q=>?_,fun b o v q=>?_,fun b ps q=>⟨#[],?_⟩⟩
   ·simp only [List.mem_cons,List.not_mem_nil,or_false,not_or]at hc
    exact Dr b o hc.1 hc.2 q
   ·simp only [List.mem_cons,List.not_mem_nil,or_false,not_or]at hc
    exact Dr b o hc.1 hc.2 q
   ·rw [AN (Nat.ne_of_lt (Heap.lt_size q))];exact n
   ·simp only [List.mem_cons,List.not_mem_nil,or_false,not_or]at hc
    exact Dr b o hc.1 hc.2 q
   ·rw [AN (AK q MO)];exact q
   ·rw [AN (AK q MO)];exact q
   ·rw [AN (AK q MO),q];simp
  have hok:HOk X.prog X.w (upd H s.heap.objs.size (.tup [.int i,x])) h2:=fun b v q=>by
   by_cases hb:b=s.heap.objs.size
   ·subst hb
    rw [Ar]at q
    cases q
    exact ⟨by show 2≤sizeLine;rw [sizeLine_eq];decide,[.int i tk,y],.cons ⟨tk,rfl⟩ (.cons ru .nil),_,LV _ _ Vk hT,rfl,_,rfl⟩
   ·rw [AN hb]at q
    refine (I.hok b v q).stay (fun c o hc r=>?_) (fun c r=>by rw [AN (AK r MO)];exact r) fun c ys r=>by rw [AN (AK r MO)];exact r
    rcases hc with rfl|hc
    ·exact Dr _ o (Lu _ _ q).1 (Lu _ _ q).2 r
    ·exact Dr c o (Lu _ _ hc).1 (Lu _ _ hc).2 r
  have I1:Inv X pins σ (upd H s.heap.objs.size (.tup [.int i,x])) { s with heap:=h2,toks:=tk+1 }:=I.call' (s':={ s with heap:=h2,toks:=tk+1 }) rfl un hok I.bare fun b hb=>by
   have:=hf b hb
   exact ⟨this.2.2.2.1,this.2.1,this.2.2.2.2.1,this.2.2.2.2.2⟩
  refine ⟨.ref s.heap.objs.size,_,I1,rfl,⟨x,_,MO,rfl,rfl,fun ys hy=>by rw [I.tuple_inj hy hq];exact hx⟩,⟨⟨_,by simpa using he2⟩,?_⟩,fun b hb=>?_⟩
  ·obtain ⟨o,HE,r⟩:=BS.1
   exact ⟨o,LV it o (Ne.symm cb) HE,r⟩
  ·rcases List.mem_cons.mp hb with rfl|hb
   ·rw [AN (Nat.ne_of_lt Kk)];exact f1.1
   ·rw [List.mem_singleton.mp hb]
    obtain ⟨o,HE,_⟩:=hit
    rw [AN (Nat.ne_of_lt (Heap.lt_size HE))];exact f2.1
 done:=by
  intro X hP hw hK hc i pins s σ H E I hf st hg
  subst hP hw hK
  obtain ⟨xs,hq,hx⟩:=hg
  obtain ⟨its,rv,p,hz⟩:=I.tuple hq
  obtain ⟨⟨old,he⟩,hit⟩:=st
  have hl:=rv.length
  have f:=hf it (by simp)
  exact UB (by simpa using I.ok.hd hc) he hit p (by simp;lia) fun h' eb=>⟨rfl,I.turned (t':=s.toks) (fun b o hb e=>eb b o hb e) f.1 f.2.1 f.2.2.2.1 f.2.2.2.2.1 f.2.2.2.2.2⟩
 self:=fun A i s Q E st h=>by
  obtain ⟨⟨old,he⟩,_⟩:=st
  exact wpAny_pyIter_enum he h
def DZ (l:List Dat):List Dat:=(List.range l.length).map fun i=>.tup [.int (i:Nat),l.getD i .non]
theorem EN {l:List Dat} {i:Nat} {d:Dat} (h:(DZ l)[i]?=some d):∃e,l[i]?=some e/\d=.tup [.int (i:Nat),e]:=by
 unfold DZ at h
 rw [List.getElem?_map]at h
 obtain ⟨j,hj,rfl⟩:=Option.map_eq_some_iff.mp h
 have A4:i<l.length:=by simpa using (List.getElem?_eq_some_iff.mp hj).1
 rw [List.getElem?_range A4]at hj
 cases hj
 exact ⟨l[i],List.getElem?_eq_getElem A4,by simp [A4]⟩
theorem D9 (l:List Dat):(DZ l).length=l.length:=by simp [DZ]
theorem Yj {K:PySem.W.Frag} {G:Gs} {l:List Dat} {H:Hp} {p:Addr} {vs:List V} (h:SqT K (hid H G) p vs) (r:RepL K (hid H G) l vs):Wk K (Ite K p) H G (DZ l):=by
 intro H' G' e
 have h':=Af AJ (Af e.hid h)
 refine ⟨fun i d hd=>?_,vs,h',by rw [D9,r.length];exact Nat.le_refl _⟩
 obtain ⟨d',UW,rfl⟩:=EN hd
 obtain ⟨v,hv,rv⟩:=r.get UW
 refine ⟨⟨vs,v,h',hv⟩,fun x Ui hy=>?_⟩
 obtain ⟨y,T,hT,e1,e2,z⟩:=hy
 have en:=z vs h'
 rw [hv]at en
 have Zw:v=y:=Option.some.inj en
 subst Zw
 subst e1
 subst e2
 refine ⟨Ext.alloc hT,fun o=>o.alloc hT,fun o=>?_⟩
 rw [Rep]
 refine ⟨T,[.int (i:Nat),v],rfl,SqT.of (EX (o.free hT) Ar),RepL.cons (by rw [Rep]) (RepL.cons ((rv.same e.hid).same (Ext.alloc hT).hid) RepL.nil)⟩
section
variable {X:Cx}{ρ:Rho}{G:Gs}{a:Expr}{l:List Dat}{pos p1:Pos}{elts:List Expr}{x1:Nat}{Tu:Pos}
theorem YK {Q:List Dat->Gs->Prop} (hm:X.mg "enumerate"=none) (ha:PX X ρ G a (.tup l)) (q:Q (DZ l) G) (hg:Gl X "enumerate":=by rfl) (he:starEach [a] X.env=(false,eval a X.env)::starEach [] X.env:=by rfl):WI X ρ G (.Tuple elts x1 Tu) (.Call (.Name "enumerate" p1) [a] [] pos) Q:=by
 intro pins s σ H I S
 refine wpAny_Call_Name_kw (Cr I hg hm (by decide +kernel:bootBuiltins "enumerate"=some (.type "enumerate")) ?_ (by decide) (by decide))
 refine PyProof.Rows.callWith_type1 (PyProof.Rows.spliced_more (thn (ha pins s σ H I S) fun u s1 ⟨x,H1,I1,r1,d,G1,e1,o1,rx,q1,q2⟩=>PyProof.Rows.spliced_none ?_) he) he rfl
 subst q1;subst q2
 rw [Rep]at rx
 obtain ⟨p,vs,rfl,h1,h2⟩:=rx
 cases r1
 obtain ⟨its,rv,pt,hz⟩:=I1.tuple (Af AJ h1)
 refine QT (show s1.heap.IsTuple p its.toArray from pt) fun h' Qm dW hk=>?_
 refine wpAny_pyIter_enum (s:={ s1 with heap:=h' }) Qm ?_
 have hp:p<s1.heap.objs.size:=by obtain ⟨o,ho,_⟩:=pt;exact Heap.lt_size ho
 refine ⟨s1.heap.objs.size+1,[s1.heap.objs.size+1,s1.heap.objs.size],_,_,H1,rfl,I1.kept (t':=s1.toks) hk,UG p _ _ (Nat.ne_of_gt (Nat.lt_succ_self _)) (Nat.ne_of_lt hp) (Nat.ne_of_lt (Nat.lt_succ_of_lt hp)),⟨⟨_,by simpa using Qm⟩,dW⟩,fun b hb=>?_,DZ l,G1,e1,o1,Yj h1 h2,q⟩
 rcases List.mem_cons.mp hb with rfl|hb
 ·exact I1.fpOk (Nat.le_succ _) (I1.hok.fresh (Nat.le_succ _))
 ·rw [List.mem_singleton.mp hb]
  exact I1.fpOk (Nat.le_refl _) (I1.hok.fresh (Nat.le_refl _))
end
def ItG (src:Hp->List V->Prop):It:=
 ⟨fun i H=>∃xs x,src H xs/\xs[i]?=some x,fun i H x H'=>∃y T,H T=none/\x=.ref T/\H'=upd H T (.tup [.int i,y])/\∀xs,src H xs->xs[i]?=some y,fun i H=>∃xs,src H xs/\xs.length=i⟩
structure SrcOk (P:Program) (w:World) (K:PySem.W.Frag) (src:Hp->List V->Prop) (it:Addr) (fp:List Addr) (hit:Nat->Heap->Prop):Prop where
 inj:∀{X:Cx} {pins σ H s xs ys},X.K=K->Inv X pins σ H s->src H xs->src H ys->xs=ys
 obj:∀i h,hit i h->∃o,h.get? it=some o/\∀v,o.data≠.cell v
 keep:∀i h h',hit i h->(∀o,h.get? it=some o->h'.get? it=some o)->hit i h'
 con:∀{X:Cx} {pins σ H s xs},X.prog=P->X.w=w->X.K=K->X.A.in1.handled=none->Inv X pins σ H s->src H xs->∃(Pv:Nat->Value->Prop) (St:Nat->Heap->Prop),Draws X.prog X.w X.A.in1 it fp xs.length Pv St/\(∀i,hit i s.heap->St i s.heap)/\(∀i h,St i h->hit i h)/\∀i v x,Pv i v->xs[i]?=some x->RelV x v
theorem KY {P:Program} {w:World} {K:PySem.W.Frag} {elts:List Expr} {x1:Nat} {pos:Pos} {src:Hp->List V->Prop} {fp:List Addr} {hit:Nat->Heap->Prop} (e it:Addr) (cb:e≠it) (yI:e∉fp) (D:SrcOk P w K src it fp hit):Turn P w K (.Tuple elts x1 pos) (ItG src) [e,it] e (fun i h=>(∃old,IsEnum h e it i old)/\hit i h) where
 mem:=by simp
 obj:=fun i h st b hb=>by
  obtain ⟨⟨old,he⟩,hi⟩:=st
  obtain ⟨o,ho,d⟩:=D.obj i h hi
  rcases List.mem_cons.mp hb with rfl|hb
  ·exact ⟨_,he,fun v z=>by cases z⟩
  ·rw [List.mem_singleton.mp hb]
   exact ⟨o,ho,fun v z=>d v z⟩
 keep:=fun i h h' st k=>by
  obtain ⟨⟨old,he⟩,hi⟩:=st
  exact ⟨⟨old,k e (by simp) _ he⟩,D.keep i h h' hi fun o ho=>k it (by simp) _ ho⟩
 item:=by
  intro X hP hw hK hc i pins s σ H E I hf st hg
  subst hP hw hK
  obtain ⟨xs,x,hq,hx⟩:=hg
  obtain ⟨⟨old,he⟩,Q4⟩:=st
  obtain ⟨Pv,St,dr,d1,d2,d3⟩:=D.con rfl rfl rfl (by simpa using I.ok.hd hc) I hq
  have A4:i<xs.length:=(List.getElem?_eq_some_iff.mp hx).1
  refine wpAny_pyNext_enum_itemD dr he (d1 i Q4) A4 cb yI fun y h1 tk hy ho BS hT hsz hk=>?_
  have ru:RelV x y:=d3 i y x hy hx
  refine ⟨_,rfl,wpAny_letOwnedTupleGo_enum (s:={ s with heap:=h1,toks:=tk+1 }) ho fun h2 he2 sb=>?_⟩
  have LV:∀b o,b≠e->h1.get? b=some o->h2.get? b=some o:=fun b o hb q=>sb.extBut b o hb q
  have MO:H s.heap.objs.size=none:=I.hok.fresh (Nat.le_refl _)
  have Kk:e<s.heap.objs.size:=Heap.lt_size he
  have Vk:s.heap.objs.size≠e:=Nat.ne_of_gt Kk
  have Dr:∀b o,b≠e->b≠it->s.heap.get? b=some o->h2.get? b=some o:=fun b o h3 h4 q=>LV b o h3 (hk b o h3 h4 q)
  have f1:=hf e (by simp)
  have f2:=hf it (by simp)
  have Lu:∀b o,H b=some o->b≠e/\b≠it:=fun b o q=>⟨AK q f1.1,AK q f2.1⟩
  have un:Un (frs X.stack) [e,it] H (upd H s.heap.objs.size (.tup [.int i,x])) s.heap h2:=by
   refine ⟨fun b o q n hb hc=>?_,fun b o q n hb hc=>⟨o.slots,?_⟩,fun b o q n hc=>?_,fun b o q hc=>⟨o,?_⟩,fun b ys q=>?_,fun b o v q=>?_,fun b ps q=>⟨#[],?_⟩⟩
   ·simp only [List.mem_cons,List.not_mem_nil,or_false,not_or]at hc
    exact Dr b o hc.1 hc.2 q
   ·simp only [List.mem_cons,List.not_mem_nil,or_false,not_or]at hc
    exact Dr b o hc.1 hc.2 q
   ·rw [AN (Nat.ne_of_lt (Heap.lt_size q))];exact n
   ·simp only [List.mem_cons,List.not_mem_nil,or_false,not_or]at hc
    exact Dr b o hc.1 hc.2 q
   ·rw [AN (AK q MO)];exact q
   ·rw [AN (AK q MO)];exact q
   ·rw [AN (AK q MO),q];simp
  have hok:HOk X.prog X.w (upd H s.heap.objs.size (.tup [.int i,x])) h2:=fun b v q=>by
   by_cases hb:b=s.heap.objs.size
   ·subst hb
    rw [Ar]at q
    cases q
    exact ⟨by show 2≤sizeLine;rw [sizeLine_eq];decide,[.int i tk,y],.cons ⟨tk,rfl⟩ (.cons ru .nil),_,LV _ _ Vk hT,rfl,_,rfl⟩
   ·rw [AN hb]at q
    refine (I.hok b v q).stay (fun c o hc r=>?_) (fun c r=>by rw [AN (AK r MO)];exact r) fun c ys r=>by rw [AN (AK r MO)];exact r
    rcases hc with rfl|hc
    ·exact Dr _ o (Lu _ _ q).1 (Lu _ _ q).2 r
    ·exact Dr c o (Lu _ _ hc).1 (Lu _ _ hc).2 r
  have I1:Inv X pins σ (upd H s.heap.objs.size (.tup [.int i,x])) { s with heap:=h2,toks:=tk+1 }:=I.call' (s':={ s with heap:=h2,toks:=tk+1 }) rfl un hok I.bare fun b hb=>by
   have:=hf b hb
   exact ⟨this.2.2.2.1,this.2.1,this.2.2.2.2.1,this.2.2.2.2.2⟩
  refine ⟨.ref s.heap.objs.size,_,I1,rfl,⟨x,_,MO,rfl,rfl,fun ys hy=>by rw [D.inj rfl I hy hq];exact hx⟩,⟨⟨_,by simpa using he2⟩,D.keep _ _ _ (d2 _ _ BS) fun o HE=>LV it o (Ne.symm cb) HE⟩,fun b hb=>?_⟩
  rcases List.mem_cons.mp hb with rfl|hb
  ·rw [AN (Nat.ne_of_lt Kk)];exact f1.1
  ·rw [List.mem_singleton.mp hb]
   obtain ⟨o,HE,_⟩:=D.obj _ _ Q4
   rw [AN (Nat.ne_of_lt (Heap.lt_size HE))];exact f2.1
 done:=by
  intro X hP hw hK hc i pins s σ H E I hf st hg
  subst hP hw hK
  obtain ⟨xs,hq,hx⟩:=hg
  obtain ⟨⟨old,he⟩,Q4⟩:=st
  obtain ⟨Pv,St,dr,d1,d2,d3⟩:=D.con rfl rfl rfl (by simpa using I.ok.hd hc) I hq
  have f:=hf it (by simp)
  subst hx
  exact wpAny_pyNext_enum_endD dr he (d1 _ Q4) fun h' eb=>⟨rfl,I.turned (t':=s.toks) (fun b o hb e=>eb b o hb e) f.1 f.2.1 f.2.2.2.1 f.2.2.2.2.1 f.2.2.2.2.2⟩
 self:=fun A i s Q E st h=>by
  obtain ⟨⟨old,he⟩,_⟩:=st
  exact wpAny_pyIter_enum he h
theorem PQ {K:PySem.W.Frag} {G:Gs} {l:List Dat} {H:Hp} {src:Hp->List V->Prop} {vs:List V} (h:∀H' G',Ext H G H' G'->src H' vs) (r:RepL K (hid H G) l vs):Wk K (ItG src) H G (DZ l):=by
 intro H' G' e
 have h':=h H' G' e
 refine ⟨fun i d hd=>?_,vs,h',by rw [D9,r.length]⟩
 obtain ⟨d',UW,rfl⟩:=EN hd
 obtain ⟨v,hv,rv⟩:=r.get UW
 refine ⟨⟨vs,v,h',hv⟩,fun x Ui hy=>?_⟩
 obtain ⟨y,T,hT,e1,e2,z⟩:=hy
 have en:=z vs h'
 rw [hv]at en
 have Zw:v=y:=Option.some.inj en
 subst Zw
 subst e1
 subst e2
 refine ⟨Ext.alloc hT,fun o=>o.alloc hT,fun o=>?_⟩
 rw [Rep]
 refine ⟨T,[.int (i:Nat),v],rfl,SqT.of (EX (o.free hT) Ar),RepL.cons (by rw [Rep]) (RepL.cons ((rv.same e.hid).same (Ext.alloc hT).hid) RepL.nil)⟩
theorem Ul {P:Program} {w:World} {K:PySem.W.Frag} {a it:Addr} (mH:a≠it):SrcOk P w K (fun H xs=>SqL K H a xs) it [it,a] (fun i h=>h.IsListIter it a i) where
 inj:=fun hK I h1 h2=>by subst hK;exact I.list_inj h1 h2
 obj:=fun i h hi=>by
  obtain ⟨o,ho,c,d⟩:=hi
  exact ⟨o,ho,fun v z=>by rw [d]at z;cases z⟩
 keep:=fun i h h' hi k=>by
  obtain ⟨o,ho,r⟩:=hi
  exact ⟨o,k o ho,r⟩
 con:=fun {X pins σ H s xs} hP hw hK hh I hq=>by
  subst hP hw hK
  obtain ⟨its,rv,p,hz⟩:=I.list hq
  have hl:its.toArray.size=xs.length:=by simp [rv.length]
  refine ⟨_,_,hl▸Draws.list hh it a mH its.toArray,fun i hi=>⟨hi,p.isList⟩,fun i h st=>st.1,fun i v x hv hx=>?_⟩
  obtain ⟨u,hu,ru⟩:=rv.get hx
  have:its.toArray[i]?=some u:=by simpa using hu
  rw [this]at hv
  cases hv
  exact ru
def Qy (x:Str):List V:=x.cps.toList.map fun c=>V.str ⟨#[c]⟩
def VD (x:Str):List Dat:=x.cps.toList.map fun c=>Dat.str ⟨#[c]⟩
theorem X6 {P:Program} {w:World} {K:PySem.W.Frag} {it:Addr} {x:Str} {t:Tok}:SrcOk P w K (fun H xs=>xs=Qy x) it [it] (fun i h=>h.IsStrIter it (strIterType x) x t i) where
 inj:=fun hK I h1 h2=>by rw [h1,h2]
 obj:=fun i h hi=>by
  obtain ⟨o,ho,c,d⟩:=hi
  exact ⟨o,ho,fun v z=>by rw [d]at z;cases z⟩
 keep:=fun i h h' hi k=>by
  obtain ⟨o,ho,r⟩:=hi
  exact ⟨o,k o ho,r⟩
 con:=fun {X pins σ H s xs} hP hw hK hh I hq=>by
  subst hP hw hK
  subst hq
  have hl:x.cps.size=(Qy x).length:=by simp [Qy]
  have hv:∀(i:Nat) (v:Value) (z:V),(∃c u,x.cps[i]?=some c/\v=Value.str ⟨#[c]⟩ u)->(Qy x)[i]?=some z->RelV z v:=fun i v z hv hz=>by
   obtain ⟨c,u,hc,rfl⟩:=hv
   have:(Qy x)[i]?=some (V.str ⟨#[c]⟩):=by
    unfold Qy
    rw [List.getElem?_map,Array.getElem?_toList,hc]
    rfl
   rw [this]at hz
   cases hz
   exact ⟨u,rfl⟩
  cases ha:x.cps.all (·<128)
  ·refine ⟨_,_,hl▸Draws.strWide hh it x t,fun i hi=>by simpa [strIterType,ha]using hi,fun i h st=>by simpa [strIterType,ha]using st,hv⟩
  ·refine ⟨_,_,hl▸Draws.strAscii hh it x t,fun i hi=>by simpa [strIterType,ha]using hi,fun i h st=>by simpa [strIterType,ha]using st,hv⟩
theorem N9 {K:PySem.W.Frag} {H:Hp}:∀(cs:List Nat),RepL K H (cs.map fun c=>Dat.str ⟨#[c]⟩) (cs.map fun c=>V.str ⟨#[c]⟩)
 |[]=>RepL.nil
 |c::cs=>RepL.cons (by rw [Rep]) (N9 cs)
section
variable {X:Cx}{ρ:Rho}{G:Gs}{a:Expr}{l:List Dat}{pos p1:Pos}{elts:List Expr}{x1:Nat}{Tu:Pos}
theorem V5 {Q:List Dat->Gs->Prop} (hm:X.mg "enumerate"=none) (ha:PX X ρ G a (.lst l)) (q:Q (DZ l) G) (hg:Gl X "enumerate":=by rfl) (he:starEach [a] X.env=(false,eval a X.env)::starEach [] X.env:=by rfl):WI X ρ G (.Tuple elts x1 Tu) (.Call (.Name "enumerate" p1) [a] [] pos) Q:=by
 intro pins s σ H I S
 refine wpAny_Call_Name_kw (Cr I hg hm (by decide +kernel:bootBuiltins "enumerate"=some (.type "enumerate")) ?_ (by decide) (by decide))
 refine PyProof.Rows.callWith_type1 (PyProof.Rows.spliced_more (thn (ha pins s σ H I S) fun u s1 ⟨x,H1,I1,r1,d,G1,e1,o1,rx,q1,q2⟩=>PyProof.Rows.spliced_none ?_) he) he rfl
 subst q1;subst q2
 rw [Rep]at rx
 obtain ⟨p,vs,rfl,h1,h2⟩:=rx
 cases r1
 obtain ⟨its,rv,pt,hz⟩:=I1.list (SqL.of (AJ _ _ h1))
 refine call_enumerate_list pt.isList fun h' Qm dW hsz hk=>?_
 refine wpAny_pyIter_enum (s:={ s1 with heap:=h' }) Qm ?_
 have hp:p<s1.heap.objs.size:=by obtain ⟨o,ho,_⟩:=pt.isList;exact Heap.lt_size ho
 refine ⟨s1.heap.objs.size+1,[s1.heap.objs.size+1,s1.heap.objs.size],_,_,H1,rfl,I1.kept (t':=s1.toks) hk,KY _ _ (Nat.ne_of_gt (Nat.lt_succ_self _)) ?_ (Ul (Nat.ne_of_lt hp)),⟨⟨_,by simpa using Qm⟩,dW⟩,fun b hb=>?_,DZ l,G1,e1,o1,PQ (vs:=vs) (fun H' G' e=>SqL.of (AJ _ _ (e.hid _ _ h1))) h2,q⟩
 ·simp only [List.mem_cons,List.not_mem_nil,or_false,not_or]
  exact ⟨Nat.succ_ne_self _,Nat.ne_of_gt (Nat.lt_succ_of_lt hp)⟩
 ·rcases List.mem_cons.mp hb with rfl|hb
  ·exact I1.fpOk (Nat.le_succ _) (I1.hok.fresh (Nat.le_succ _))
  ·rw [List.mem_singleton.mp hb]
   exact I1.fpOk (Nat.le_refl _) (I1.hok.fresh (Nat.le_refl _))
theorem Vr {x:Str} {Q:List Dat->Gs->Prop} (hm:X.mg "enumerate"=none) (ha:PX X ρ G a (.str x)) (q:Q (DZ (VD x)) G) (hg:Gl X "enumerate":=by rfl) (he:starEach [a] X.env=(false,eval a X.env)::starEach [] X.env:=by rfl):WI X ρ G (.Tuple elts x1 Tu) (.Call (.Name "enumerate" p1) [a] [] pos) Q:=by
 intro pins s σ H I S
 refine wpAny_Call_Name_kw (Cr I hg hm (by decide +kernel:bootBuiltins "enumerate"=some (.type "enumerate")) ?_ (by decide) (by decide))
 refine PyProof.Rows.callWith_type1 (PyProof.Rows.spliced_more (thn (ha pins s σ H I S) fun u s1 ⟨y,H1,I1,r1,d,G1,e1,o1,rx,q1,q2⟩=>PyProof.Rows.spliced_none ?_) he) he rfl
 subst q1;subst q2
 cases (show y=V.str x from rx)
 obtain ⟨t,rfl⟩:=r1
 refine call_enumerate_str fun h' Qm dW hsz hk=>?_
 refine wpAny_pyIter_enum (s:={ s1 with heap:=h' }) Qm ?_
 refine ⟨s1.heap.objs.size+1,[s1.heap.objs.size+1,s1.heap.objs.size],_,_,H1,rfl,I1.kept (t':=s1.toks) hk,KY _ _ (Nat.ne_of_gt (Nat.lt_succ_self _)) ?_ (X6 (x:=x) (t:=t)),⟨⟨_,by simpa using Qm⟩,dW⟩,fun b hb=>?_,DZ (VD x),G1,e1,o1,PQ (vs:=Qy x) (fun H' G' e=>rfl) (N9 _),q⟩
 ·simp only [List.mem_cons,List.not_mem_nil,or_false]
  exact Nat.succ_ne_self _
 ·rcases List.mem_cons.mp hb with rfl|hb
  ·exact I1.fpOk (Nat.le_succ _) (I1.hok.fresh (Nat.le_succ _))
  ·rw [List.mem_singleton.mp hb]
   exact I1.fpOk (Nat.le_refl _) (I1.hok.fresh (Nat.le_refl _))
end
section
variable {X:Cx}{ρ:Rho}{G:Gs}{a b c:Expr}{d:Dat}{pos:Pos}{x y:Str}
theorem Ov {p:Bool} (hc:PXT X ρ G c p) (ha:p=true->PX X ρ G a d) (hb:p=false->PX X ρ G b d):PX X ρ G (.IfExp c a b pos) d:=by
 intro pins s σ H I S
 refine wpAny_IfExp (thn (hc pins s σ H I S) fun q s1 ⟨H1,I1,_,e1,o1,q1,q2⟩=>?_)
 subst q1;subst q2
 cases q with
 |true=>exact thn (ha rfl pins s1 σ H1 I1 (S.ext e1 o1)) fun _ _ z=>EP.mono z fun _ _ y=>Po.trans e1 y
 |false=>exact thn (hb rfl pins s1 σ H1 I1 (S.ext e1 o1)) fun _ _ z=>EP.mono z fun _ _ y=>Po.trans e1 y
theorem My (ha:PX X ρ G a (.str x)) (hb:PX X ρ G b (.str y)):PXC X ρ G .Eq a b (.bl (x==y)):=
 DB Y8 ha hb fun H u v Q o hx hy k=>by
  cases (show u=V.str x from hx);cases (show v=V.str y from hy)
  exact ⟨rfl,by rw [Jj];exact k _ _ (BL o rfl)⟩
theorem W0 (ha:PX X ρ G a (.str x)) (hb:PX X ρ G b (.str y)):PXC X ρ G .NotEq a b (.bl (!(x==y))):=
 DB ZJ ha hb fun H u v Q o hx hy k=>by
  cases (show u=V.str x from hx);cases (show v=V.str y from hy)
  exact ⟨rfl,by rw [Jj];exact k _ _ (BL o rfl)⟩
theorem CI (ha:PX X ρ G a (.str x)) (hb:PX X ρ G b (.str y)) (hz:x.length+y.length≤sizeLine):PX X ρ G (.BinOp a .Add b pos) (.str (x++y)):=
 JI Qd ha hb fun H u v Q o hx hy k=>⟨x,y,hx,hy,hz,k _ _ (BL o rfl)⟩
theorem SN {p:Pos} (hm:X.mg "len"=none) (ha:PX X ρ G a (.str x)) (hz:x.length≤sizeLine) (hg:Gl X "len":=by rfl) (he:starEach [a] X.env=(false,eval a X.env)::starEach [] X.env:=by rfl):PX X ρ G (.Call (.Name "len" p) [a] [] pos) (.int x.length):=
 Em ND hg hm PySem.boot_len ha (fun H v Q o r k=>⟨x,by rw [show v=V.str x from r],hz,k _ _ (BL o rfl)⟩) (he:=he)
theorem RU {K:PySem.W.Frag} {H:Hp}:∀{ss:List Str} {vs:List V},RepL K H (ss.map .str) vs->vs=ss.map .str
 |[],_,h=>h
 |s::ss,_,h=>by
  obtain ⟨v,r,rfl,h1,h2⟩:=h
  rw [RU h2,show v=V.str s from h1]
  rfl
theorem SU:∀{ss:List Str} {us:List Value},Vals (ss.map .str) us->∃l:List (Str×Tok),us=strValues l/\l.map (·.1)=ss
 |[],_,.nil=>⟨[],rfl,rfl⟩
 |s::ss,_,.cons h1 h2=>by
  obtain ⟨t,rfl⟩:=h1
  obtain ⟨l,rfl,rfl⟩:=SU h2
  exact ⟨(s,t)::l,rfl,rfl⟩
theorem MA:∀(l:List (Str×Tok)),Vals ((l.map (·.1)).map V.str) (strValues l)
 |[]=>.nil
 |p::l=>.cons ⟨p.2,rfl⟩ (MA l)
theorem HK {ss:List Str} {apos Ae:Pos} (ha:PX X ρ G a (.str x)) (hb:PX X ρ G b (.lst (ss.map .str))) (hok:JoinOk x ss=true)
  (C6:attributeBase a "join" X.env (eval a X.env)=eval a X.env:=by rfl)
  (KR:((backTo Ae (starEach [b] X.env)).all (fun x=>!x.1)&&(backToKw Ae (keywordEach [] X.env)).all (fun x=>x.1.isSome)&&decide (([b]:List Expr).length+([]:List Keyword).length+(if ([]:List Keyword).isEmpty then 0 else 1)<30))=true:=by rfl)
  (CG:(apos.endLine==Ae.line)=true:=by rfl) (hs:starEach [b] X.env=(false,eval b X.env)::starEach [] X.env:=by rfl) (hpl:(backTo Ae (starEach [] X.env)).any (·.1)=false:=by rfl) :
  PX X ρ G (.Call (.Attribute a "join" apos) [b] [] Ae) (.str (Txt.join x ss)):=by
 intro pins s σ H I S
 refine wpAny_Call_method_late C6 KR CG rfl (thn (ha pins s σ H I S) fun u s1 ⟨v,H1,I1,rx,_,G1,e1,o1,r1,q1,Bp⟩=>?_)
 subst q1;subst Bp
 cases (show v=V.str x from r1)
 obtain ⟨t,rfl⟩:=rx
 refine ⟨"str","str.join",PySem.F.plainAttrs_str,PySem.F.slot_str_join,PySem.F.type_str_join,typeIs_str _ _ _,(fun _ e=>nomatch e),?_⟩
 have hA:=(AD hb AF hs:PXs X ρ G1 [b] [_]) Ae pins s1 σ H1 I1 (S.ext e1 o1)
 rw [hs]at hA ⊢
 refine Calls.callWith_builtin (by show (false||(backTo Ae (starEach [] X.env)).any (·.1))=false;rw [hpl];rfl) (Calls.evalArgs_plain ?_)
 refine thn hA fun us s2 ⟨vs,H2,I2,rv,_,G2,e2,o2,r2,q2,Ek⟩=>?_
 subst q2;subst Ek
 rw [RepL]at r2
 obtain ⟨y,r,rfl,r2,r3⟩:=r2
 rw [RepL]at r3
 subst r3
 obtain ⟨u2,rfl,ry⟩:=rv.one
 rw [Rep]at r2
 obtain ⟨p,vs,rfl,h1,h2⟩:=r2
 cases ry
 have hv:=RU h2
 subst hv
 obtain ⟨its,aB,pt,hz⟩:=I2.list (SqL.of (AJ _ _ h1))
 obtain ⟨l,rfl,rfl⟩:=SU aB
 exact SC.join pt.isList rfl hok fun t' k=>⟨.str _,H2,I2.tok _,⟨_,rfl⟩,.str _,_,e1.trans e2,o2,rfl,rfl,rfl⟩
section
variable {prog:Program}{w:World}{A:Around}{E:Value->Shared->Prop}{s:Shared}{x:Str}{t:Tok}{Q:Value->Shared->Prop}
open Builtin Builtin.Str in
theorem T7 {y:Str} {u:Tok} (hy:(y.length==0)=false)
  (hq:∀l k,l.map (·.1)=Txt.split x y->Q (.ref s.heap.objs.size) { s with heap:=s.heap.push { cls:=.type "list",data:=.seq (strValues l).toArray },toks:=k })
  (hsz:x.length≤sizeLine) (Xm:(partsBetween x (occurrences x y 0 x.length (x.length+1)) y.length).length≤sizeLine) :
  wpAny (model prog w) A (call (.builtin "str.split") [.str x t,.str y u]) Q E s:=by
 cases h1:(decide (x.length<y.length)||decide (strKind x<strKind y))
 ·cases hf:(occurrences x y 0 x.length (x.length+1)).isEmpty
  ·refine call_meets F.slot_str_split (typeIs_str _ _ _) F.entry_str_split (F.args_str_split_2 _ _) (meets_str_split_sep x y t u h1 hy hf hsz Xm) ?_
   show wants Q E _ { s with toks:=_,heap:=s.heap.push { cls:=.type "list",data:=.seq (strsFrom s.toks (partsBetween x (occurrences x y 0 x.length (x.length+1)) y.length)).toArray } }
   rw [strsFrom_eq]
   exact hq (numbered s.toks _) _ ((numbered_texts _ _).trans ((if_neg (ne_true_of_eq_false h1)).trans (if_neg (ne_true_of_eq_false hf))).symm)
  ·exact call_meets F.slot_str_split (typeIs_str _ _ _) F.entry_str_split (F.args_str_split_2 _ _) (meets_str_split_not_found x y t u h1 hy hf)
    (hq [(x,t)] s.toks ((if_neg (ne_true_of_eq_false h1)).trans (if_pos hf)).symm)
 ·exact call_meets F.slot_str_split (typeIs_str _ _ _) F.entry_str_split (F.args_str_split_2 _ _) (meets_str_split_cannot_occur x y t u h1)
   (hq [(x,t)] s.toks (if_pos h1).symm)
end
open Builtin Builtin.Str in
theorem OJ {apos Ae:Pos} (ha:PX X ρ G a (.str x)) (hb:PX X ρ G b (.str y)) (hy:(y.length==0)=false) (hz:x.length≤sizeLine) (Yr:(partsBetween x (occurrences x y 0 x.length (x.length+1)) y.length).length≤sizeLine)
  (C6:attributeBase a "split" X.env (eval a X.env)=eval a X.env:=by rfl)
  (KR:((backTo Ae (starEach [b] X.env)).all (fun x=>!x.1)&&(backToKw Ae (keywordEach [] X.env)).all (fun x=>x.1.isSome)&&decide (([b]:List Expr).length+([]:List Keyword).length+(if ([]:List Keyword).isEmpty then 0 else 1)<30))=true:=by rfl)
  (CG:(apos.endLine==Ae.line)=true:=by rfl) (hs:starEach [b] X.env=(false,eval b X.env)::starEach [] X.env:=by rfl) (hpl:(backTo Ae (starEach [] X.env)).any (·.1)=false:=by rfl) :
  PX X ρ G (.Call (.Attribute a "split" apos) [b] [] Ae) (.lst ((Txt.split x y).map .str)):=by
 intro pins s σ H I S
 refine wpAny_Call_method_late C6 KR CG rfl (thn (ha pins s σ H I S) fun u s1 ⟨v,H1,I1,rx,_,G1,e1,o1,r1,q1,Bp⟩=>?_)
 subst q1;subst Bp
 cases (show v=V.str x from r1)
 obtain ⟨t,rfl⟩:=rx
 refine ⟨"str","str.split",PySem.F.plainAttrs_str,PySem.F.slot_str_split,PySem.F.type_str_split,typeIs_str _ _ _,(fun _ e=>nomatch e),?_⟩
 have hA:=(AD hb AF hs:PXs X ρ G1 [b] [_]) Ae pins s1 σ H1 I1 (S.ext e1 o1)
 rw [hs]at hA ⊢
 refine Calls.callWith_builtin (by show (false||(backTo Ae (starEach [] X.env)).any (·.1))=false;rw [hpl];rfl) (Calls.evalArgs_plain ?_)
 refine thn hA fun us s2 ⟨vs,H2,I2,rv,_,G2,e2,o2,r2,q2,Ek⟩=>?_
 subst q2;subst Ek
 rw [RepL]at r2
 obtain ⟨y',r,rfl,r2,r3⟩:=r2
 rw [RepL]at r3
 subst r3
 obtain ⟨u2,rfl,ry⟩:=rv.one
 cases (show y'=V.str y from r2)
 obtain ⟨t2,rfl⟩:=ry
 have hlen:(Txt.split x y).length≤sizeLine:=by
  unfold Txt.split
  split
  ·show 1≤sizeLine;rw [sizeLine_eq];decide
  ·split
   ·show 1≤sizeLine;rw [sizeLine_eq];decide
   ·exact Yr
 refine T7 hy (fun l k hl=>?_) hz Yr
 have hf:=I2.hok.fresh (Nat.le_refl s2.heap.objs.size)
 refine ⟨.ref s2.heap.objs.size,_,I2.laid (t':=k) (fun b o e=>Heap.get?_push_of_some _ e) (Nat.le_refl _) (show ObjOk X.prog X.w _ _ _ (.lst ((l.map (·.1)).map V.str))from ⟨by rw [List.length_map,hl];exact hlen,strValues l,_,MA l,Heap.get?_push_size _ rfl⟩),rfl,?_⟩
 refine Po.trans (e1.trans e2) (Dy o2 hf ?_)
 rw [hl]
 have:∀ss:List Str,RepL X.K (hid H2 G2) (ss.map .str) (ss.map V.str):=fun ss=>by
  induction ss with
  |nil=>exact RepL.nil
  |cons z zs ih=>exact RepL.cons (by rw [Rep]) ih
 exact this _
end
def KQ (H H':Hp):Prop:=∀b o,H b=some o->H' b=some o\/∃φ,o=HO.ext φ
theorem fK {K:PySem.W.Frag} {H H':Hp} {a:Addr} {xs:List V} (e:KQ H H') (h:SqT K H a xs):SqT K H' a xs:=by
 rcases h with (h|⟨o,h⟩)|h
 ·rcases e _ _ h with h|⟨φ,h⟩
  ·exact .inl (.inl h)
  ·cases h
 ·rcases e _ _ h with h|⟨φ,h⟩
  ·exact .inl (.inr ⟨o,h⟩)
  ·cases h
 ·exact .inr h
theorem dg {K:PySem.W.Frag} {H H':Hp} {a:Addr} {xs:List V} (e:KQ H H') (h:SqL K H a xs):SqL K H' a xs:=by
 rcases h with (h|⟨o,h⟩)|h
 ·rcases e _ _ h with h|⟨φ,h⟩
  ·exact .inl (.inl h)
  ·cases h
 ·rcases e _ _ h with h|⟨φ,h⟩
  ·exact .inl (.inr ⟨o,h⟩)
  ·cases h
 ·exact .inr h
mutual
theorem Rep.x {K:PySem.W.Frag} {H H':Hp} (e:KQ H H'):∀{d:Dat} {v:V},Rep K H d v->Rep K H' d v
 |.non,_,h=>by simpa [Rep]using h
 |.bl _,_,h=>by simpa [Rep]using h
 |.int _,_,h=>by simpa [Rep]using h
 |.str _,_,h=>by simpa [Rep]using h
 |.fn _,_,h=>by simpa [Rep]using h
 |.scr _,_,h=>by
  obtain ⟨a,h1,h2⟩:=(by simpa [Rep]using h:∃a,_=V.ref a/\SqL K H a _)
  rw [Rep];exact ⟨a,h1,dg e h2⟩
 |.tup _,_,h=>by
  rw [Rep]at h ⊢
  obtain ⟨a,vs,h1,h2,h3⟩:=h
  exact ⟨a,vs,h1,fK e h2,RepL.x e h3⟩
 |.lst _,_,h=>by
  rw [Rep]at h ⊢
  obtain ⟨a,vs,h1,h2,h3⟩:=h
  refine ⟨a,vs,h1,?_,RepL.x e h3⟩
  rcases e _ _ h2 with h|⟨φ,h⟩
  ·exact h
  ·cases h
theorem RepL.x {K:PySem.W.Frag} {H H':Hp} (e:KQ H H'):∀{ds:List Dat} {vs:List V},RepL K H ds vs->RepL K H' ds vs
 |[],_,h=>by rw [RepL]at h ⊢;exact h
 |_::_,_,h=>by
  rw [RepL]at h ⊢
  obtain ⟨v,r,h1,h2,h3⟩:=h
  exact ⟨v,r,h1,Rep.x e h2,RepL.x e h3⟩
end
theorem DRep.x {K:PySem.W.Frag} {H H':Hp} (e:KQ H H'):∀{kvs:List (Dat×Dat)} {xs:List (Dat×Addr×Value)},DRep K H kvs xs->DRep K H' kvs xs
 |[],_,h=>h
 |_::_,_,⟨a,u,L5,h1,h2,h3,⟨v,h4,h5⟩,h6⟩=>⟨a,u,L5,h1,h2,h3.x e,⟨v,h4,h5.x e⟩,DRep.x e h6⟩
theorem OwnOk.x {K:PySem.W.Frag} {H H':Hp} {G G':Gs} {a:Addr} {o:OD} (h:OwnOk K H G a o) (e:KQ (hid H G) (hid H' G')) (q:H' a=H a):OwnOk K H' G' a o:=by
 cases o with
 |lst l=>
  obtain ⟨vs,h1,h2⟩:=h
  exact ⟨vs,q.trans h1,h2.x e⟩
 |dct kvs=>
  obtain ⟨xs,h1,h2⟩:=h
  exact ⟨xs,q.trans h1,h2.x e⟩
section
variable {prog:Program}{w:World}{A:Around}{E:Value->Shared->Prop}{s:Shared}{it d:Addr}{od:Obj}{es:Array DictEntry}{i ep:Nat}
theorem Wj {Q:Option Value->Shared->Prop} (hit:s.heap.IsKeyIter it d i es.size ep) (Ww:s.heap.get? d=some od) (Uk:od.data=.dict es ep) (VR:i<es.size)
  (hQ:∀h',h'.IsKeyIter it d (i+1) es.size ep->Heap.SameBut it s.heap h'->Q (some es[i].key) { s with heap:=h' }):wpAny (model prog w) A (pyNext (.ref it)) Q E s:=by
 obtain ⟨o,ho,hc,hd⟩:=id hit
 unfold pyNext
 refine wpAny_bind (wpAny_attempt (wpAny_callSpecial?_slot (name:=Str.ofString "__next__") hit.typeIs F.slot_dict_keyiterator_next (wpAny_call_entry F.slot_dict_keyiterator_next hit.typeIs F.entry_dict_keyiterator_next ?_ (F.args_dict_keyiterator_next_1 _))))
 refine wpAny_bind (wpAny_pure (wpAny_bind (wpAny_bind ?_)))
 refine wpAny_bind (wpAny_typeNameOfWhole_keyiter hit.typeIs (wpAny_pure (wpAny_bind (wpAny_fieldsOf ho hd ?_))))
 have aa:Builtin.Dict_items.ownsTuple "dict_keyiterator"=false:=by decide
 simp only [aa,Bool.false_eq_true,if_false]
 show wpAny _ _ (if (Value.ref d==Value.none)=true then _ else _) _ _ s
 rw [if_neg (show ¬((Value.ref d==Value.none)=true)from Bool.false_ne_true)]
 refine wpAny_bind (wpAny_pure (wpAny_bind (wpAny_dictEntries Ww Uk ?_)))
 rw [if_neg (by simp)]
 refine wpAny_bind (wpAny_pure (wpAny_bind (wpAny_dictEpoch Ww Uk ?_)))
 rw [if_neg (by simp)]
 refine wpAny_pure ?_
 simp only [show ¬((i:Int)<0)from by lia,if_false,Int.toNat_natCast,Array.getElem?_eq_getElem VR]
 refine wpAny_bind ?_
 refine wpAny_bind (wpAny_typeNameOfWhole_keyiter hit.typeIs (wpAny_pure (wpAny_bind (wpAny_isOneOf_keyiter hit.typeIs ?_))))
 show wpAny _ _ (setField (.ref it) 1 (rawInt ((i:Int)+1)) >>= _) _ _ s
 refine wpAny_bind (wpAny_setField ho hd (by simp) ?_)
 have Q4:(s.heap.update it (Obj.mapFields (·.setIfInBounds 1 (rawInt ((i:Int)+1))))).IsKeyIter it d (i+1) es.size ep:=
  ⟨_,Heap.get?_update_self _ ho (Obj.isFreed_of_fields (Obj.data_mapFields hd _)),(Obj.cls_mapFields ..).trans hc,by rw [Obj.data_mapFields hd];simp [rawInt]⟩
 refine wpAny_bind (wpAny_holding ?_)
 refine wpAny_bind (wpAny_isOneOf_keyiter (s:={ s with heap:=s.heap.update it (Obj.mapFields (·.setIfInBounds 1 (rawInt ((i:Int)+1)))) }) Q4.typeIs ?_)
 show wpAny _ _ (pure es[i].key) _ _ _
 exact wpAny_pure (wpAny_pure ⟨_,rfl,wpAny_pure (hQ _ Q4 (Heap.SameBut.update ..))⟩)
theorem Xq {Q:Option Value->Shared->Prop} (hh:A.handled=none) (hit:s.heap.IsKeyIter it d es.size es.size ep) (Ww:s.heap.get? d=some od) (Uk:od.data=.dict es ep)
  (hQ:∀h',Heap.ExtBut it s.heap h'->Q none { s with heap:=h' }):wpAny (model prog w) A (pyNext (.ref it)) Q E s:=by
 obtain ⟨o,ho,hc,hd⟩:=id hit
 unfold pyNext
 refine wpAny_bind (wpAny_attempt (wpAny_callSpecial?_slot (name:=Str.ofString "__next__") hit.typeIs F.slot_dict_keyiterator_next (wpAny_call_entry F.slot_dict_keyiterator_next hit.typeIs F.entry_dict_keyiterator_next ?_ (F.args_dict_keyiterator_next_1 _))))
 refine wpAny_bind (wpAny_pure (wpAny_bind (wpAny_bind ?_)))
 refine wpAny_bind (wpAny_typeNameOfWhole_keyiter hit.typeIs (wpAny_pure (wpAny_bind (wpAny_fieldsOf ho hd ?_))))
 have aa:Builtin.Dict_items.ownsTuple "dict_keyiterator"=false:=by decide
 simp only [aa,Bool.false_eq_true,if_false]
 show wpAny _ _ (if (Value.ref d==Value.none)=true then _ else _) _ _ s
 rw [if_neg (show ¬((Value.ref d==Value.none)=true)from Bool.false_ne_true)]
 refine wpAny_bind (wpAny_pure (wpAny_bind (wpAny_dictEntries Ww Uk ?_)))
 rw [if_neg (by simp)]
 refine wpAny_bind (wpAny_pure (wpAny_bind (wpAny_dictEpoch Ww Uk ?_)))
 rw [if_neg (by simp)]
 refine wpAny_pure ?_
 simp only [show ¬((es.size:Int)<0)from by lia,if_false,Int.toNat_natCast,Array.getElem?_eq_none (Nat.le_refl es.size)]
 refine wpAny_bind ?_
 refine wpAny_bind (wpAny_typeNameOfWhole_keyiter hit.typeIs (wpAny_pure ?_))
 show wpAny _ _ (setField (.ref it) 0 .none >>= _) _ _ s
 refine wpAny_bind (wpAny_setField ho hd (by simp) ?_)
 show wpAny _ _ (newExc (.type "StopIteration") [] >>= _) _ _ _
 refine wpAny_bind ?_
 simp only [newExc,newTuple]
 refine wpAny_bind (wpAny_newObj_type ?_ (by size_fits))
 refine wpAny_bind (m:=firstArgMember _ _) (wpAny_of_eq (a:=Value.none) (by first|rfl|(simp only [firstArgMember];rfl)) ?_)
 refine wpAny_newObj_type ?_ (by size_fits)
 simp only [raiseNew]
 refine wpAny_bind (wpAny_handled ?_)
 rw [show A.in1.handled=none from hh]
 refine wpAny_bind (wpAny_pure (wpAny_throw ?_))
 refine wpAny_bind (wpAny_isInstance (T:="StopIteration") (b:=true) ⟨_,Heap.get?_push_size _ rfl,rfl⟩ isSubtype_stop ?_)
 exact wpAny_pure (hQ _ (((Heap.SameBut.update ..).extBut.push _).push _))
theorem UA {Q:Value->Shared->Prop} (hd:(d==sysModules)=false) (Ww:s.heap.get? d=some od) (hx:od.ExactDict) (Uk:od.data=.dict es ep)
  (hQ:Q (.ref s.heap.objs.size) { s with heap:=s.heap.push { cls:=.type "dict_keyiterator",data:=.fields #[.ref d,.int 0 0,.int es.size 0,.int ep 0] } }):wpAny (model prog w) A (pyIter (.ref d)) Q E s:=by
 have hT:s.TypeIs (.ref d) "dict":=⟨od,Ww,hx.1⟩
 refine wpAny_pyIter_slot hT F.slot_dict_iter (wpAny_call_entry F.slot_dict_iter hT F.entry_dict_iter ?_ (F.args_dict_iter_1 _))
 unfold Builtin.«dict.__iter__»
 refine wpAny_bind ?_
 unfold Builtin.Dict.dictSlotNone
 refine wpAny_bind (wpAny_notOrdered_dict hT ?_)
 show wpAny _ _ (pure (Value.ref d)) _ _ s
 refine wpAny_pure ?_
 show wpAny _ _ (Builtin.Dict.showsAll d >>= _) _ _ s
 unfold Builtin.Dict.showsAll
 rw [if_neg (by rw [hd];exact Bool.false_ne_true)]
 refine wpAny_bind (wpAny_pure (wpAny_bind (wpAny_dictEntries Ww Uk (wpAny_bind (wpAny_dictEpoch Ww Uk ?_)))))
 refine wpAny_bind (wpAny_newObj_type (wpAny_pure ⟨_,rfl,"dict_keyiterator",_,⟨_,Heap.get?_push_size _ rfl,rfl⟩,F.slot_dict_keyiterator_next.lookup,?_⟩))
 simpa [rawInt]using hQ
end
def exO (p:Addr) (o:Obj):HO:=.ext fun h=>h.get? p=some o
theorem Zy {P:Program} {w:World} {H:Hp} {h:Heap} {p:Addr} {o:Obj} (e:h.get? p=some o):ObjOk P w H h p (exO p o):=⟨e,⟨o,e⟩,fun _ _ q k=>k _ q⟩
def ItK (p:Addr) (o:Obj) (es:Array DictEntry):It:=
 ⟨fun i H=>H p=some (exO p o)/\i<es.size,fun i H x H'=>H'=H/\∃(hi:i<es.size) (a:Addr),es[i].key=.ref a/\x=.ref a,fun i H=>H p=some (exO p o)/\es.size=i⟩
theorem T6 {P:Program} {w:World} {K:PySem.W.Frag} {tg:Expr} {p it:Addr} {o:Obj} {es:Array DictEntry} {ep:Nat} (Uk:o.data=.dict es ep) (hk:∀(i:Nat) (hi:i<es.size),∃a,es[i].key=.ref a):Turn P w K tg (ItK p o es) [it] it (fun i h=>h.IsKeyIter it p i es.size ep) where
 mem:=by simp
 obj:=fun i h st b hb=>by
  have e:b=it:=by simpa using hb
  subst e
  obtain ⟨o,e,c,d⟩:=st
  exact ⟨o,e,fun v z=>by rw [d]at z;cases z⟩
 keep:=fun i h h' st k=>st.at fun o e=>k it (by simp) o e
 item:=by
  intro X hP hw hK hc i pins s σ H E I hf st hg
  subst hP hw hK
  obtain ⟨hp,hi⟩:=hg
  obtain ⟨e,_,_⟩:=(show ObjOk X.prog X.w H s.heap p (exO p o)from I.hok p _ hp)
  obtain ⟨f0,f1,f2,f3,f4,f5⟩:=hf it (by simp)
  obtain ⟨a,ha⟩:=hk i hi
  refine Wj st e Uk hi fun h' AO sb=>?_
  have I1:Inv X pins σ H { s with heap:=h' }:=I.turned (t':=s.toks) (fun b o hb e=>(sb.2 b hb).trans e) f0 f1 f3 f4 f5
  obtain ⟨o,e,c,d⟩:=id AO
  exact ⟨_,rfl,Ra (s:={ s with heap:=h' }) e c d (by decide) ⟨.ref a,H,I1,ha,⟨rfl,hi,a,ha,rfl⟩,AO,fun b hb=>(hf b hb).1⟩⟩
 done:=by
  intro X hP hw hK hc i pins s σ H E I hf st hg
  subst hP hw hK
  obtain ⟨hp,rfl⟩:=hg
  obtain ⟨e,_,_⟩:=(show ObjOk X.prog X.w H s.heap p (exO p o)from I.hok p _ hp)
  obtain ⟨f0,f1,f2,f3,f4,f5⟩:=hf it (by simp)
  exact Xq (I.ok.hd hc) st e Uk fun h' eb=>⟨rfl,I.turned (t':=s.toks) (fun b o hb e=>eb b o hb e) f0 f1 f3 f4 f5⟩
 self:=fun _ _ _ _ _ st h=>wpAny_pyIter_keyiter st h
section
variable {X:Cx}{ρ:Rho}{G:Gs}{elt target iter:Expr}{scope:Scope}{Ae:Pos}{Nc:List Str}{caps:List (Option Nat)}{f:Dat->Rho->Option Rho}{p:Addr}{kvs:List (Dat×Dat)}
theorem L3 {K:PySem.W.Frag} {H:Hp}:∀{kvs:List (Dat×Dat)} {xs:List (Dat×Addr×Value)},DRep K H kvs xs->kvs.map (·.1)=xs.map (·.1)
 |[],_,h=>by rw [DRep]at h;subst h;rfl
 |(k,d)::r,_,h=>by
  rw [DRep]at h
  obtain ⟨a,u,L5,rfl,_,_,_,h6⟩:=h
  rw [List.map_cons,List.map_cons,L3 h6]
theorem Hm (g:Dat->Dat) (Sc:CompSc X scope Nc caps) (B9:X.calm=true) (ha:PX X ρ G iter (.fn p)) (hG:G p=some (.dct kvs))
  (hg:∀C s' H' fp,PGD (Aa X Nc scope C s' H' fp) target f) (hle:∀d ρ',f d (Bb caps ρ)=some ρ'->ρ'.length=(Bb caps ρ).length/\∀(j:Nat) e,(Bb caps ρ)[j]?=some (some e)->ρ'[j]?=some (some e)) (hz:kvs.length<sizeLine)
  (DW:∀C s' H' fp G' d,d∈kvs.map (·.1)->∃ρ',f d (Bb caps ρ)=some ρ'/\PX (Aa X Nc scope C s' H' fp) ρ' G' elt (g d)) (WW:∀x,foldedSetIterable iter X.env x=pure x:=by intro _;rfl) :
  PX X ρ G (.ListComp elt [⟨target,iter,[],0⟩] scope Ae) (.lst ((kvs.map (·.1)).map g)):=by
 intro pins s σ H I S
 rw [eval_ListComp]
 refine wpAny_comprehension_free (use:=none) rfl WW (Gb fun x hx hf=>I.ok.has x.1 (Sc.free x hx hf)) Sc.kind Sc.names ?_
 refine thn (ha pins s σ H I S) fun v s1 ⟨x,H1,I1,rx,_,G1,e1,o1,r1,q1,Bp⟩=>?_
 subst q1;subst Bp
 cases (show x=V.ref p from r1)
 cases rx
 obtain ⟨xs,hp,dr⟩:=o1 p _ hG
 obtain ⟨⟨z1,z2,z3,o,es,ep,z4,z5,z6,z7⟩,_,_⟩:=(show ObjOk X.prog X.w H1 s1.heap p (.ext (KI p xs))from I1.hok p _ hp)
 refine UA z1 z4 z5 z6 ?_
 have hsz:es.size=xs.length:=by
  have:=congrArg List.length z7
  simpa using this
 have Ue:kvs.map (·.1)=xs.map (·.1):=L3 dr
 have wu:kvs.length=xs.length:=by
  have:=congrArg List.length Ue
  simpa using this
 have dM:∀(i:Nat) (hi:i<es.size),∃q,xs[i]?=some q/\es[i].key=.ref q.2.1:=fun i hi=>by
  have h1:es.toList[i]?=(xs.map bh)[i]?:=by rw [z7]
  have MN:i<xs.length:=by lia
  rw [List.getElem?_map,List.getElem?_eq_getElem MN,Array.getElem?_toList,Array.getElem?_eq_getElem hi]at h1
  refine ⟨xs[i],List.getElem?_eq_getElem MN,?_⟩
  have h2:es[i]=bh xs[i]:=by simpa using h1
  rw [h2];rfl
 have WD:∀b,G1 b=none->b≠p:=fun b h e=>by subst e;rw [hG]at h;cases h
 have gw:∀b,b≠p->upd H1 p (exO p o) b=H1 b:=fun b hb=>AN hb
 have E2:Ext H1 G1 (upd H1 p (exO p o)) (rel G1 p):=⟨fun b u e h=>by rw [gw b (WD b h)];exact e,fun b h=>by
  by_cases hb:b=p
  ·subst hb;rw [CF]at h;exact absurd rfl h
  ·rw [D6 hb]at h;exact .inl h⟩
 have O2:GOk X.K (upd H1 p (exO p o)) (rel G1 p):=fun b u q=>by
  have hb:b≠p:=by rintro rfl;rw [CF]at q;cases q
  rw [D6 hb]at q
  exact (o1 b u q).ext E2.hid (gw b hb)
 have hpl:p<s1.heap.objs.size:=Heap.lt_size z4
 have kp:∀b u,s1.heap.get? b=some u->(s1.heap.push { cls:=.type "dict_keyiterator",data:=.fields #[.ref p,.int 0 0,.int es.size 0,.int ep 0] }).get? b=some u:=fun b u e=>Heap.get?_push_of_some _ e
 have I2:Inv X pins σ (upd H1 p (exO p o)) { s1 with heap:=s1.heap.push { cls:=.type "dict_keyiterator",data:=.fields #[.ref p,.int 0 0,.int es.size 0,.int ep 0] },toks:=s1.toks }:=
  I1.write (x:=p) (e:=p) (by rw [hp];trivial) (.inl rfl) (fun b u _ e=>kp b u e) ⟨o,kp _ _ z4⟩ (Zy (kp _ _ z4))
 have vL:∀b∈[s1.heap.objs.size],IP X pins (upd H1 p (exO p o)) b:=fun b hb=>by
  rw [List.mem_singleton.mp hb]
  have:=I1.fpOk (b:=s1.heap.objs.size) (Nat.le_refl _) (I1.hok.fresh (Nat.le_refl _))
  obtain ⟨f0,f1,f2,f3,f4,f5⟩:=this
  exact ⟨by rw [gw _ (Nat.ne_of_gt hpl)];exact f0,f1,f2,f3,f4,f5⟩
 have wk:Wk X.K (ItK p o es) (upd H1 p (exO p o)) (rel G1 p) (kvs.map (·.1)):=by
  intro H' G' e
  have Xb:H' p=some (exO p o):=e.keep p _ Ar CF
  refine ⟨fun i d hd=>?_,Xb,by rw [List.length_map,wu,hsz]⟩
  rw [Ue,List.getElem?_map]at hd
  obtain ⟨q,hq,rfl⟩:=Option.map_eq_some_iff.mp hd
  have hi:i<es.size:=by rw [hsz];exact (List.getElem?_eq_some_iff.mp hq).1
  refine ⟨⟨Xb,hi⟩,fun x Ui hh=>?_⟩
  obtain ⟨rfl,MN,a,aD,rfl⟩:=hh
  obtain ⟨q',iC,Dp⟩:=dM i hi
  rw [hq]at iC
  cases iC
  rw [aD]at Dp
  cases Dp
  refine ⟨Ext.refl,fun z=>z,fun _=>?_⟩
  exact ((dr.keys q (List.mem_of_getElem? hq)).2.same E2.hid).same e.hid
 refine MY (ρ:=ρ) (G:=rel G1 p) (l:=kvs.map (·.1)) (H:=upd H1 p (exO p o)) (RR:=fun acc C=>compPost (model X.prog X.w) X.A X.xe none (EP X pins σ (Po X H G1 fun d' G'=>d'=.lst ((kvs.map (·.1)).map g)/\G'=G1)) acc C) (fun i acc G'=>G'=rel G1 p/\acc=((kvs.map (·.1)).take i).map g) (LM elt target iter scope Ae) Sc B9 hg hle (by rw [List.length_map];exact Nat.le_of_lt hz) ?_ I2 (S.ext (e1.trans E2) O2) (T6 (it:=s1.heap.objs.size) z6 fun i hi=>let ⟨q,_,h⟩:=dM i hi;⟨_,h⟩) ⟨_,Heap.get?_push_size _ rfl,rfl,rfl⟩ vL wk ⟨rfl,by simp⟩ ?_
 ·rintro C s' H' fp Dd i d acc G' hd ⟨rfl,rfl⟩ hD
  obtain ⟨ρ',h1,h2⟩:=DW C s' H' fp (put (rel G1 p) Dd (.lst (((kvs.map (·.1)).take i).map g))) d (List.mem_of_getElem? hd)
  refine ⟨ρ',h1,Ea rfl AL ?_ (PX.we h2 ⟨AL,_,rel G1 p,?_,hD,BQ,rfl,?_⟩)⟩
  ·have:(((kvs.map (·.1)).take i).map g).length≤kvs.length:=by rw [List.length_map,List.length_take,List.length_map];lia
   lia
  ·simp
  ·rw [List.take_add_one,hd]
   simp
 ·rintro D C s3 sf σc Hf Gf acc k3 rfl ⟨H3,I3,f3,Ic⟩ ef of qC ⟨rfl,rfl⟩
  obtain ⟨m,hm,_⟩:=Ic.loc
  refine ⟨m,hm,fun h' hs=>?_⟩
  have If:=Kh I3 f3 Ic hs
  obtain ⟨E3,O3,R3⟩:=SG (X:=X) of AL
  rw [DI qC]at E3 O3 R3
  have E4:=ef.trans E3
  have jH:Hf p=some (exO p o):=E4.keep p _ Ar CF
  obtain ⟨zz,_,_⟩:=(show ObjOk X.prog X.w Hf _ p (exO p o)from If.hok p _ jH)
  have dat:KI p xs h':=⟨z1,z2,z3,o,es,ep,zz,z5,z6,z7⟩
  have I4:=If.write (t':=sf.toks) (x:=p) (e:=p) (o:=Gv p xs) (by rw [jH];trivial) (.inl rfl) (fun b u _ e=>e) ⟨o,zz⟩ (P1 dat)
  have lL:∀b,b≠p->upd Hf p (Gv p xs) b=Hf b:=fun b hb=>AN hb
  have gB:∀b u,H1 b=some u->G1 b=none->upd Hf p (Gv p xs) b=some u:=fun b u e h=>by
   have hb:=WD b h
   rw [lL b hb]
   exact E4.keep b u (by rw [gw b hb];exact e) (by rw [D6 hb];exact h)
  have E5:Ext H1 G1 (upd Hf p (Gv p xs)) G1:=⟨gB,fun b h=>.inl h⟩
  have SX:KQ (hid Hf (rel G1 p)) (hid (upd Hf p (Gv p xs)) G1):=fun b u h=>by
   obtain ⟨h1,h2⟩:=Mu h
   by_cases hb:b=p
   ·subst hb
    rw [jH]at h2
    cases h2
    exact .inr ⟨_,rfl⟩
   ·rw [D6 hb]at h1
    exact .inl (EX h1 (by rw [lL b hb];exact h2))
  refine ⟨.ref D,_,I4,rfl,.lst _,G1,e1.trans E5,fun b u q=>?_,R3.x SX,by rw [List.take_length],rfl⟩
  by_cases hb:b=p
  ·subst hb
   rw [hG]at q
   cases q
   exact ⟨xs,Ar,dr.same E5.hid⟩
  ·exact (O3 b u (by rw [D6 hb];exact q)).x SX (lL b hb)
end
section
variable {prog:Program}{w:World}{A:Around}{R:Result->Shared->Prop}{I:Addr}{fp wr:List Addr}{n:Nat}{P:Nat->Value->Prop}{St:Nat->Heap->Prop}{kw:List (Str×Value)}
theorem TH (W:Walks prog w A.in1 I fp wr n P St) (bt:Nat->Nat->Bool) (Vj:CmpOf prog w A.in1 .Gt P bt) (S:Addr) (Pm:S∉fp) :
  ∀(k j:Nat) (s:Shared) (vb:Value) (c:Nat),n-(j+1)=k->j+1≤n->St (j+1) s.heap->P (argBest bt j) vb →
  s.heap.get? S=some { cls:=.type "list",dict:=none,data:=.seq #[vb,vb] c,slots:=#[] } →
  (∀v h' tk,P (argBest bt (n-1)) v->(∀b o,b∉wr->b≠S->s.heap.get? b=some o->h'.get? b=some o)->R (.ok (.ret v)) { s with heap:=h',toks:=tk }) →
  codeAny (model prog w) A (.builtin "max.loop" ⟨[.ref I,.none,.ref S],kw⟩) R s:=by
 have gx:S∉wr:=fun h=>Pm (W.sub _ h)
 have Lz:(toString "max"++toString ".loop":String) = "max.loop":=by decide
 intro k
 induction k with
 |zero=>
  intro j s vb c hk hj D4 gy hS hR
  have Jt:j+1=n:=by lia
  refine codeAny_builtin PySem.F.entry_max_loop ?_
  rw [Around.under_plainId PySem.F.plain_max_loop _]
  show wpAny _ A.in1 (seqItems? (.ref S) >>= _) _ _ s
  refine wpAny_bind (wpAny_seqItems hS rfl ?_)
  show wpAny _ A.in1 (tryCatch (pyNext (.ref I)) _ >>= _) _ _ s
  refine wpAny_bind (wpAny_tryCatch (W.done s _ _ (Jt▸D4) fun h' tk Dp=>?_))
  have Ln:=Dp S _ gx hS
  show wpAny _ A.in1 (updateSeq S (fun _=>#[]) >>= _) _ _ _
  refine wpAny_bind ?_
  refine wpAny_updateSeq Ln rfl (wpAny_bind (wpAny_letGo (wpAny_pure ?_)))
  refine hR vb _ tk (by rw [<-Jt];exact gy) fun b o UT YE e=>(Heap.get?_update_other _ _ (Ne.symm YE)).trans (Dp b o UT e)
 |succ k ih=>
  intro j s vb c hk hj D4 gy hS hR
  have A4:j+1<n:=by lia
  refine codeAny_builtin PySem.F.entry_max_loop ?_
  rw [Around.under_plainId PySem.F.plain_max_loop _]
  show wpAny _ A.in1 (seqItems? (.ref S) >>= _) _ _ s
  refine wpAny_bind (wpAny_seqItems hS rfl ?_)
  show wpAny _ A.in1 (tryCatch (pyNext (.ref I)) _ >>= _) _ _ s
  refine wpAny_bind (wpAny_tryCatch (W.item (j+1) s _ _ A4 D4 fun v h' tk hP XT Dp=>?_))
  have Ln:=Dp S _ gx hS
  show wpAny _ A.in1 (tryCatch (holding [v,v] (richCompare .Gt v vb >>= _)) _ >>= _) _ _ _
  refine wpAny_bind (wpAny_tryCatch (wpAny_holding (wpAny_bind (Vj (j+1) (argBest bt j) v vb _ _ _ hP gy ?_))))
  refine wpAny_bind (wpAny_holding (wpAny_truthy_bool ?_))
  refine wpAny_bind (wpAny_letGo (wpAny_pure ?_))
  cases hb:bt (j+1) (argBest bt j)with
  |true=>
   simp only [if_true]
   refine wpAny_bind ?_
   refine wpAny_updateSeq Ln rfl (wpAny_bind (wpAny_letGo ?_))
   rw [Lz]
   refine wpAny_pure ⟨plainId_quiet PySem.F.plain_max_loop _,ih (j+1) _ v _ (by lia) A4 (W.frame _ _ _ XT fun b nz o e=>?_) (by simp only [argBest,hb,if_true];exact hP) (Heap.get?_update_self _ Ln rfl)
    fun v' dw V6 Qj WL=>?_⟩
   ·exact (Heap.get?_update_other _ _ (fun h:S=b=>Pm (by rw [h];exact nz))).trans e
   ·exact hR v' dw V6 Qj fun b o UT YE e=>WL b o UT YE ((Heap.get?_update_other _ _ (Ne.symm YE)).trans (Dp b o UT e))
  |false=>
   simp only [Bool.false_eq_true,if_false]
   refine wpAny_bind (wpAny_letGo ?_)
   rw [Lz]
   refine wpAny_pure ⟨plainId_quiet PySem.F.plain_max_loop _,ih (j+1) _ vb c (by lia) A4 XT (by simp only [argBest,hb,Bool.false_eq_true,if_false];exact gy) Ln fun v' dw V6 Qj WL=>?_⟩
   exact hR v' dw V6 Qj fun b o UT YE e=>WL b o UT YE (Dp b o UT e)
theorem Qa (W:Walks prog w A.in1 I fp wr n P St) (bt:Nat->Nat->Bool) (Vj:CmpOf prog w A.in1 .Gt P bt) (S:Addr) (Pm:S∉fp) (hn:0<n) {s:Shared} {c:Nat} (D4:St 0 s.heap)
  (hS:s.heap.get? S=some { cls:=.type "list",dict:=none,data:=.seq #[] c,slots:=#[] })
  (hR:∀v h' tk,P (argBest bt (n-1)) v->(∀b o,b∉wr->b≠S->s.heap.get? b=some o->h'.get? b=some o)->R (.ok (.ret v)) { s with heap:=h',toks:=tk }) :
  codeAny (model prog w) A (.builtin "max.loop" ⟨[.ref I,.none,.ref S],kw⟩) R s:=by
 have gx:S∉wr:=fun h=>Pm (W.sub _ h)
 have Lz:(toString "max"++toString ".loop":String) = "max.loop":=by decide
 refine codeAny_builtin PySem.F.entry_max_loop ?_
 rw [Around.under_plainId PySem.F.plain_max_loop _]
 show wpAny _ A.in1 (seqItems? (.ref S) >>= _) _ _ s
 refine wpAny_bind (wpAny_seqItems hS rfl ?_)
 show wpAny _ A.in1 (tryCatch (pyNext (.ref I)) _ >>= _) _ _ s
 refine wpAny_bind (wpAny_tryCatch (W.item 0 s _ _ hn D4 fun v h' tk hP XT Dp=>?_))
 have Ln:=Dp S _ gx hS
 show wpAny _ A.in1 (updateSeq S (fun _=>#[v,v]) >>= _) _ _ _
 refine wpAny_bind ?_
 refine wpAny_updateSeq Ln rfl ?_
 rw [Lz]
 refine wpAny_pure ⟨plainId_quiet PySem.F.plain_max_loop _,TH W bt Vj S Pm _ 0 _ v _ rfl hn (W.frame _ _ _ XT fun b nz o e=>?_) hP (Heap.get?_update_self _ Ln rfl) fun v' dw V6 Qj WL=>?_⟩
 ·exact (Heap.get?_update_other _ _ (fun h:S=b=>Pm (by rw [h];exact nz))).trans e
 ·exact hR v' dw V6 Qj fun b o UT YE e=>WL b o UT YE ((Heap.get?_update_other _ _ (Ne.symm YE)).trans (Dp b o UT e))
end
section
variable {prog:Program}{w:World}{A:Around}{E:Value->Shared->Prop}{s:Shared}
theorem UE (a v:Value):argsOk "max" ⟨[a],[(Str.ofString "default",v)]⟩:=by unfold argsOk;kernel_rfl
theorem Sx {x d:Value} {Q:Value->Shared->Prop}
  (h:wpAny (model prog w) A.in1 (pyIter x) (fun it s₂=>∃I fp wr n P St bt,it=.ref I/\Walks prog w A.in1 I fp wr n P St/\St 0 s₂.heap/\(∀b∈fp,b<s₂.heap.objs.size)/\0<n/\CmpOf prog w A.in1 .Gt P bt ∧
   ∀v h' tk,P (argBest bt (n-1)) v->(∀b o,b∉wr->s₂.heap.get? b=some o->h'.get? b=some o)->Q v { s₂ with heap:=h',toks:=tk }) E s) :
  wpAny (model prog w) A (call (.builtin "max") [x] [(Str.ofString "default",d)]) Q E s:=by
 have Lz:(toString "max"++toString ".loop":String) = "max.loop":=by decide
 refine PyProof.Rows.kmb_tree PySem.F.kind_max PySem.F.plain_max PySem.F.entry_max (UE _ _) ?_
 show wpAny _ A.in1 (Builtin.Builtins.bindParams "max" ["key","default"] 0 ⟨[],[(Str.ofString "default",d)]⟩ >>= _) _ _ s
 refine wpAny_bind (wpAny_of_eq (show Builtin.Builtins.bindParams "max" ["key","default"] 0 ⟨[],[(Str.ofString "default",d)]⟩=pure [none,some d]from by kernel_rfl) ?_)
 refine wpAny_bind (wpAny_pure ?_)
 refine wpAny_bind (wpAny_mono h (fun it s₂ h₂=>?_) fun _ _ e=>e)
 obtain ⟨I,fp,wr,n,P,St,bt,rfl,W,D4,jy,hn,Vj,hQ⟩:=h₂
 refine wpAny_bind (wpAny_newObj_type ?_)
 have Pm:s₂.heap.objs.size∉fp:=fun hm=>Nat.lt_irrefl _ (jy _ hm)
 rw [Lz]
 refine wpAny_pure ⟨plainId_quiet PySem.F.plain_max_loop _,Qa W bt Vj s₂.heap.objs.size Pm hn (W.frame _ _ _ D4 fun b _ o e=>Heap.get?_push_of_some _ e) (Heap.get?_push_size _ rfl) fun v h' tk hP hk=>?_⟩
 exact hQ v h' tk hP fun b o UT e=>hk b o UT (Nat.ne_of_lt (Heap.lt_size e)) (Heap.get?_push_of_some _ e)
theorem NW {l:Addr} {xs:Array (Int×Tok)} {d:Value} {Q:Value->Shared->Prop} (hh:A.handled=none) (hl:s.heap.IsList l (intItems xs)) (Co:0<xs.size)
  (h:∀v h' tk,(intItems xs)[argBest (fun i j=>decide (numAt xs i > numAt xs j)) (xs.size-1)]?=some v->(∀b o,s.heap.get? b=some o->h'.get? b=some o)->Q v { s with heap:=h',toks:=tk }) :
  wpAny (model prog w) A (call (.builtin "max") [.ref l] [(Str.ofString "default",d)]) Q E s:=by
 refine Sx (iter_intList hl fun s₂ e st jy vO=>?_)
 subst e
 refine ⟨_,_,_,_,_,_,_,rfl,Walks.list (A:=A.in1) hh _ l vO (intItems xs),st,jy,by simpa [intItems]using Co,CmpOf.ints_gt (numAt xs) (fun _ _=>intItems_at),fun v h' tk hP hk=>?_⟩
 exact h v h' tk (by simpa [intItems]using hP) (old_kept hk)
end
section
variable {X:Cx}{ρ:Rho}{G:Gs}{a b c:Expr}{d:Dat}{pos:Pos}
theorem O1 {ns:List Int} {M:Int} {pp kp:Pos} {dv:Dat} (hc:X.calm=true) (hm:X.mg "max"=none) (ha:PX X ρ G a (.lst (ns.map .int))) (hb:PX X ρ G b dv) (h1:M∈ns) (h2:∀a∈ns,a≤M) (hg:Gl X "max":=by rfl)
  (he:starEach [a] X.env=(false,eval a X.env)::starEach [] X.env:=by rfl) (aV:backTo pos (starEach [a] X.env)=(false,eval a X.env)::backTo pos (starEach [] X.env):=by rfl)
  (K5:(backTo pos (starEach [a] X.env)).any (·.1)=false:=by rfl) :
  PX X ρ G (.Call (.Name "max" pp) [a] [⟨some "default",b,kp⟩] pos) (.int M):=by
 intro pins s σ H I S
 refine wpAny_Call_Name_kw (Cr I hg hm (by decide +kernel:bootBuiltins "max"=some (.builtin "max")) ?_ (by decide) (by decide))
 refine PyProof.Rows.callWith_kw (PyProof.Rows.spliced_more (thn (ha pins s σ H I S) fun u s1 ⟨x,H1,I1,r1,_,G1,e1,o1,rx,q1,q2⟩=>PyProof.Rows.spliced_none ?_) he) aV K5
 subst q1;subst q2
 refine PyProof.Rows.kws_cons (thn (hb pins s1 σ H1 I1 (S.ext e1 o1)) fun u2 s2 ⟨y,H2,I2,r2,_,G2,e2,o2,ry,q3,q4⟩=>PyProof.Rows.kws_nil ?_)
 subst q3;subst q4
 have gq:=rx.same e2.hid
 rw [Rep]at gq
 obtain ⟨p,vs,rfl,g1,g2⟩:=gq
 cases r1
 have hq:SqL X.K H2 p (ns.map V.int):=by rw [<-g2.ints];exact SqL.of (AJ _ _ g1)
 obtain ⟨its,r',pl,hz⟩:=I2.list hq
 have hi:IntsAre its ns:=K1 r'
 obtain ⟨xs,hx⟩:=hi.allInts.items
 have Nv:ns=xs.toList.map (·.1):=by rw [<-hi.numsOf,<-nums_intItems,<-hx]
 have hsz:0<xs.size:=by
  have h3:0<ns.length:=List.length_pos_of_mem h1
  rw [Nv,List.length_map,Array.length_toList]at h3;exact h3
 have hl:=pl.isList
 rw [hx]at hl
 show wpAny _ _ (call (.builtin "max") [.ref p] [(Str.ofString "default",u2)]) _ _ _
 refine NW (I2.ok.hd hc) hl hsz fun v h' tk hv hk=>?_
 obtain ⟨t,rfl⟩:=intItems_at hv
 obtain ⟨m1,m2⟩:=argBest_gt (numAt xs) (xs.size-1)
 have hM:M=numAt xs (argBest (fun i j=>decide (numAt xs i > numAt xs j)) (xs.size-1)):=by
  refine Int.le_antisymm ?_ (h2 _ ?_)
  ·rw [Nv]at h1
   obtain ⟨j,hj,rfl⟩:=mem_getD h1
   rw [List.length_map,Array.length_toList]at hj
   rw [<-numAt_eq];exact m2 j (by lia)
  ·rw [Nv,numAt_eq];exact getD_mem (by rw [List.length_map,Array.length_toList];lia)
 exact ⟨.int _,H2,I2.kept hk,⟨t,rfl⟩,.int M,_,e1.trans e2,o2,by rw [Rep,hM],rfl,rfl⟩
theorem O7 {kvs:List (Dat×Dat)} {p:Addr} {k dd:Dat} {apos Ae:Pos} (hu:X.A.units+9<cLine) (ha:PX X ρ G a (.fn p)) (hb:PX X ρ G b k) (hc:PX X ρ G c dd) (hG:G p=some (.dct kvs)) (hk:CH 6 k=true) (hr:∃l,k=.tup l)
  (C6:attributeBase a "get" X.env (eval a X.env)=eval a X.env:=by rfl)
  (KR:((backTo Ae (starEach [b,c] X.env)).all (fun x=>!x.1)&&(backToKw Ae (keywordEach [] X.env)).all (fun x=>x.1.isSome)&&decide (([b,c]:List Expr).length+([]:List Keyword).length+(if ([]:List Keyword).isEmpty then 0 else 1)<30))=true:=by rfl)
  (CG:(apos.endLine==Ae.line)=true:=by rfl) (hs:starEach [b,c] X.env=(false,eval b X.env)::starEach [c] X.env:=by rfl) (X4:starEach [c] X.env=(false,eval c X.env)::starEach [] X.env:=by rfl) (hpl:(backTo Ae (starEach [c] X.env)).any (·.1)=false:=by rfl) :
  PX X ρ G (.Call (.Attribute a "get" apos) [b,c] [] Ae) ((A2 kvs k).getD dd):=by
 intro pins s σ H I S
 refine wpAny_Call_method_late C6 KR CG rfl (thn (ha pins s σ H I S) fun u s1 ⟨x,H1,I1,rx,_,G1,e1,o1,r1,q1,Bp⟩=>?_)
 subst q1;subst Bp
 cases (show x=V.ref p from r1)
 cases rx
 obtain ⟨yo,vP,tR⟩:=o1 p _ hG
 obtain ⟨y1,y2,rj⟩:=Ha I1 vP (tR.same AJ)
 refine ⟨"dict","dict.get",PySem.F.plainAttrs_dict,PySem.F.slot_dict_get,PySem.F.type_dict_get,rj.typeIs,?_,?_⟩
 ·obtain ⟨o,es,ep,ho,hc,_⟩:=rj
  intro b hb
  cases hb
  exact ⟨o,ho,hc.2.1⟩
 have hA:=(AD hb (AD hc AF X4) hs:PXs X ρ G1 [b,c] [k,dd]) Ae pins s1 σ H1 I1 (S.ext e1 o1)
 rw [hs]at hA ⊢
 refine Calls.callWith_builtin (by show (false||(backTo Ae (starEach [c] X.env)).any (·.1))=false;rw [hpl];rfl) (Calls.evalArgs_plain ?_)
 refine thn hA fun us s2 ⟨vs,H2,I2,rv,_,G2,e2,o2,r2,q2,Ek⟩=>?_
 subst q2;subst Ek
 rw [RepL]at r2
 obtain ⟨y,r,rfl,uG,r2⟩:=r2
 rw [RepL]at r2
 obtain ⟨z,r,rfl,vK,r2⟩:=r2
 rw [RepL]at r2
 subst r2
 obtain ⟨u2,u3,rfl,ry,rz⟩:=Mh rv
 obtain ⟨l,rfl⟩:=hr
 have Tj:=uG.same AJ
 have hx:∃t,y=V.ref t:=by rw [Rep]at Tj;obtain ⟨t,_,e,_⟩:=Tj;exact ⟨t,e⟩
 obtain ⟨t,rfl⟩:=hx
 cases ry
 obtain ⟨xs,h3,r3⟩:=o2 p _ hG
 obtain ⟨z1,z2,dc⟩:=Ha I2 h3 (r3.same AJ)
 refine call_meetsIn PySem.F.slot_dict_get dc.typeIs PySem.F.entry_dict_get (PySem.F.args_dict_get_3 _ _ _) (meetsH_dict_get_default (Dq X.prog X.w) p t z1 u3) ⟨show X.A.units+1+6<cLine by lia,_,_,LH I2 hk Tj,dc,?_⟩
 cases hl:A2 kvs (.tup l)with
 |none=>
  have:=(DRep.look (.tup l) r3).1
  rw [hl]at this
  have hn:atKey xs (.tup l)=none:=by
   cases q:atKey xs (.tup l)with
   |none=>rfl
   |some _=>rw [q]at this;cases this
  rw [hn]
  exact ⟨z,H2,I2.tok _,rz,dd,_,e1.trans e2,o2,vK,rfl,rfl⟩
 |some d=>
  obtain ⟨q,v,hq,rv,rd⟩:=(DRep.look _ r3).2 d hl
  rw [hq]
  exact ⟨v,H2,I2.tok _,rv,d,_,e1.trans e2,o2,rd,rfl,rfl⟩
end
def Dl (s:Ck):Nat:=if s.1.2=s.2.2 then 94 else 60
def Dt (s:Ck):Nat:=if s.1.2=s.2.2 then 118 else 62
def Zq (p:Sq) (s:Ck):Bool:=decide (s.1=p)||decide (s.2=p)
def sgn (k:Lay) (p:Sq):Nat:=match k.find? (Zq p)with
 |some s=>if s.1=p then Dl s else Dt s
 |none=>46
def A5 (k:Lay) (w r:Nat):List Nat:=(List.range w).map fun (c:Nat)=>sgn k ((r:Int),(c:Int))
def Ag (k:Lay) (h w:Nat):List Nat:=(List.range h).flatMap fun r=>A5 k w r++[10]
def CJ (i j:Nat) (c:Option Nat):Lay:=if c=some 60 then [(((i:Int),(j:Int)),((i:Int),(j:Int)+1))]else if c=some 94 then [(((i:Int),(j:Int)),((i:Int)+1,(j:Int)))]else []
def GW (i:Nat) (cs:List Nat):Lay:=(List.range cs.length).flatMap fun j=>CJ i j cs[j]?
def Ah (ls:List (List Nat)):Lay:=(List.range ls.length).flatMap fun i=>GW i (ls.getD i [])
theorem Jc {k:Lay} {p:Sq} {c:Nat} (h:sgn k p=c):(∃s∈k,s.1=p/\c=Dl s)\/(∃s∈k,s.2=p/\c=Dt s)\/c=46:=by
 unfold sgn at h
 split at h
 ·rename_i s hs
  have hm:=List.mem_of_find?_eq_some hs
  have hp:=List.find?_some hs
  unfold Zq at hp
  split at h
  ·rename_i e;exact .inl ⟨s,hm,e,h.symm⟩
  ·rename_i e
   simp [e]at hp
   exact .inr (.inl ⟨s,hm,hp,h.symm⟩)
 ·exact .inr (.inr h.symm)
theorem Jy (s:Ck) (k:Lay) (p:Sq):sgn (s::k) p=if s.1=p then Dl s else if s.2=p then Dt s else sgn k p:=by
 unfold sgn
 rw [List.find?_cons]
 unfold Zq
 by_cases h1:s.1=p
 ·simp [h1]
 ·by_cases h2:s.2=p
  ·simp [h1,h2]
  ·simp [h1,h2]
theorem EA (s:Ck) (k:Lay):AM (s::k)=s.1::s.2::AM k:=rfl
theorem Ji {k:Lay} (nd:(AM k).Nodup) {s:Ck} (hs:s∈k):sgn k s.1=Dl s:=by
 induction k with
 |nil=>cases hs
 |cons t k ih=>
  rw [EA,List.nodup_cons,List.nodup_cons]at nd
  obtain ⟨n1,n2,n3⟩:=nd
  rw [Jy]
  rcases List.mem_cons.mp hs with rfl|hs
  ·rw [if_pos rfl]
  ·have hm:s.1∈AM k:=DK.mpr ⟨s,hs,.inl rfl⟩
   rw [if_neg (show ¬t.1=_ from fun e=>n1 (List.mem_cons_of_mem _ (by rw [e];exact hm))),if_neg (show ¬t.2=_ from fun e=>n2 (by rw [e];exact hm))]
   exact ih n3 hs
theorem NJ {k:Lay} (nd:(AM k).Nodup) {s:Ck} (hs:s∈k):sgn k s.2=Dt s:=by
 induction k with
 |nil=>cases hs
 |cons t k ih=>
  rw [EA,List.nodup_cons,List.nodup_cons]at nd
  obtain ⟨n1,n2,n3⟩:=nd
  rw [Jy]
  rcases List.mem_cons.mp hs with rfl|hs
  ·rw [if_neg (fun e=>n1 (by rw [e];exact List.mem_cons_self ..)),if_pos rfl]
  ·have hm:s.2∈AM k:=DK.mpr ⟨s,hs,.inr rfl⟩
   rw [if_neg (show ¬t.1=_ from fun e=>n1 (List.mem_cons_of_mem _ (by rw [e];exact hm))),if_neg (show ¬t.2=_ from fun e=>n2 (by rw [e];exact hm))]
   exact ih n3 hs
theorem VS {k:Lay} {p:Sq} (h:p∉AM k):sgn k p=46:=by
 induction k with
 |nil=>rfl
 |cons t k ih=>
  rw [EA]at h
  simp only [List.mem_cons,not_or]at h
  rw [Jy,if_neg (fun e=>h.1 e.symm),if_neg (fun e=>h.2.1 e.symm)]
  exact ih h.2.2
theorem aZ {l m:Lay} (hl:l.Pairwise fun s t=>A1 s.1 t.1) (hm:m.Pairwise fun s t=>A1 s.1 t.1) (h:∀x,x∈l↔x∈m):l=m:=by
 induction l generalizing m with
 |nil=>
  cases m with
  |nil=>rfl
  |cons b m=>exact absurd ((h b).mpr (List.mem_cons_self ..)) (by simp)
 |cons a l ih=>
  cases m with
  |nil=>exact absurd ((h a).mp (List.mem_cons_self ..)) (by simp)
  |cons b m=>
   rw [List.pairwise_cons]at hl hm
   have e:a=b:=by
    rcases List.mem_cons.mp ((h a).mp (List.mem_cons_self ..))with e|e
    ·exact e
    ·rcases List.mem_cons.mp ((h b).mpr (List.mem_cons_self ..))with e2|e2
     ·exact e2.symm
     ·exact (Ax _ (Dh (hl.1 b e2) (hm.1 a e))).elim
   subst e
   rw [ih hl.2 hm.2 fun x=>?_]
   constructor
   ·intro hx
    rcases List.mem_cons.mp ((h x).mp (List.mem_cons_of_mem _ hx))with e|e
    ·subst e;exact (Ax _ (hl.1 x hx)).elim
    ·exact e
   ·intro hx
    rcases List.mem_cons.mp ((h x).mpr (List.mem_cons_of_mem _ hx))with e|e
    ·subst e;exact (Ax _ (hm.1 x hx)).elim
    ·exact e
theorem LC {i j:Nat} {c:Option Nat} {s:Ck}:s∈CJ i j c↔s.1=((i:Int),(j:Int))/\((c=some 60/\s.2=((i:Int),(j:Int)+1))\/(c=some 94/\s.2=((i:Int)+1,(j:Int)))):=by
 unfold CJ
 obtain ⟨a,b⟩:=s
 split
 ·rename_i h;simp [h]
 ·split
  ·rename_i h;simp [h]
  ·rename_i h1 h2;simp [h1,h2]
theorem FW {i:Nat} {cs:List Nat} {s:Ck}:s∈GW i cs↔∃j,j<cs.length/\s∈CJ i j cs[j]?:=by
 unfold GW
 simp [List.mem_flatMap]
theorem KO {ls:List (List Nat)} {s:Ck}:s∈Ah ls↔∃i,i<ls.length/\s∈GW i (ls.getD i []):=by
 unfold Ah
 simp [List.mem_flatMap]
theorem XA (i:Nat) (cs:List Nat):(GW i cs).Pairwise fun s t=>A1 s.1 t.1:=by
 unfold GW
 rw [List.pairwise_flatMap]
 refine ⟨fun j _=>?_,List.pairwise_lt_range.imp fun {a b} M8 x hx y hy=>?_⟩
 ·unfold CJ;split
  ·simp
  ·split<;>simp
 ·rw [LC]at hx hy
  rw [hx.1,hy.1]
  exact .inr ⟨rfl,by simp only;lia⟩
theorem Mb (ls:List (List Nat)):(Ah ls).Pairwise fun s t=>A1 s.1 t.1:=by
 unfold Ah
 rw [List.pairwise_flatMap]
 refine ⟨fun i _=>XA i _,List.pairwise_lt_range.imp fun {a b} M8 x hx y hy=>?_⟩
 obtain ⟨j,_,hx⟩:=FW.mp hx
 obtain ⟨j',_,hy⟩:=FW.mp hy
 rw [LC]at hx hy
 rw [hx.1,hy.1]
 exact .inl (by simp only;lia)
theorem QX {F:List Sq} {k:Lay} (J:IsLay F k) (nd:F.Nodup) {h w:Nat} (box:∀p∈F,0≤p.1/\p.1<h/\0≤p.2/\p.2<w):Ah ((List.range h).map (A5 k w)++[[]])=k:=by
 have eC:(AM k).Nodup:=J.pm.nodup_iff.mpr nd
 refine aZ (Mb _) J.up fun s=>?_
 have cell:∀i j:Nat,i<h->j<w->(((List.range h).map (A5 k w)++[[]]).getD i [])[j]?=some (sgn k ((i:Int),(j:Int)))/\(((List.range h).map (A5 k w)++[[]]).getD i []).length=w:=fun i j hi hj=>by
  have e:((List.range h).map (A5 k w)++[[]]).getD i []=A5 k w i:=by
   rw [List.getD_eq_getElem?_getD,List.getElem?_append_left (by simpa using hi),List.getElem?_map,List.getElem?_range hi]
   rfl
  rw [e]
  unfold A5
  rw [List.getElem?_map,List.getElem?_range hj,List.length_map,List.length_range]
  exact ⟨rfl,rfl⟩
 rw [KO]
 constructor
 ·rintro ⟨i,hi,hs⟩
  obtain ⟨j,hj,hs⟩:=FW.mp hs
  have gg:i<h:=by
   rcases Nat.lt_or_ge i h with q|q
   ·exact q
   ·have:((List.range h).map (A5 k w)++[[]]).getD i []=[]:=by
     rw [List.getD_eq_getElem?_getD,List.getElem?_append_right (by simpa using q)]
     simp only [List.length_map,List.length_range]
     cases hh:i-h with
     |zero=>rfl
     |succ n=>rfl
    rw [this]at hj
    cases hj
  have yK:j<w:=by rw [(cell i 0 gg (by
   rcases Nat.eq_zero_or_pos w with q|q
   ·subst q
    have e:((List.range h).map (A5 k 0)++[[]]).getD i []=[]:=by
     rw [List.getD_eq_getElem?_getD,List.getElem?_append_left (by simpa using gg),List.getElem?_map,List.getElem?_range gg]
     rfl
    rw [e]at hj
    cases hj
   ·exact q)).2]at hj;exact hj
  rw [(cell i j gg yK).1,LC]at hs
  obtain ⟨h1,h2⟩:=hs
  rcases h2 with ⟨hc,h2⟩|⟨hc,h2⟩
  ·have hc:=Option.some.inj hc
   rcases Jc hc with ⟨t,ht,e1,e2⟩|⟨t,ht,e1,e2⟩|e
   ·have:=J.st t ht
    unfold Dl at e2
    have Co:t.1.2≠t.2.2:=fun q=>by rw [if_pos q]at e2;cases e2
    have:s=t:=by
     obtain ⟨⟨a,b⟩,c,d⟩:=t
     obtain ⟨⟨a',b'⟩,c',d'⟩:=s
     unfold A1 nbM at this
     simp at this e1 h1 h2 Co ⊢
     lia
    rw [this];exact ht
   ·unfold Dt at e2;split at e2<;>cases e2
   ·cases e
  ·have hc:=Option.some.inj hc
   rcases Jc hc with ⟨t,ht,e1,e2⟩|⟨t,ht,e1,e2⟩|e
   ·have:=J.st t ht
    unfold Dl at e2
    have Co:t.1.2=t.2.2:=Classical.byContradiction fun q=>by rw [if_neg q]at e2;cases e2
    have:s=t:=by
     obtain ⟨⟨a,b⟩,c,d⟩:=t
     obtain ⟨⟨a',b'⟩,c',d'⟩:=s
     unfold A1 nbM at this
     simp at this e1 h1 h2 Co ⊢
     lia
    rw [this];exact ht
   ·unfold Dt at e2;split at e2<;>cases e2
   ·cases e
 ·intro hs
  have m1:s.1∈F:=J.pm.mem_iff.mp (DK.mpr ⟨s,hs,.inl rfl⟩)
  obtain ⟨b1,b2,b3,b4⟩:=box _ m1
  have hi:s.1.1.toNat<h:=by lia
  have hj:s.1.2.toNat<w:=by lia
  refine ⟨s.1.1.toNat,by simp;lia,FW.mpr ⟨s.1.2.toNat,by rw [(cell _ _ hi hj).2];exact hj,?_⟩⟩
  rw [(cell _ _ hi hj).1,LC]
  have e1:(((s.1.1.toNat:Nat):Int),((s.1.2.toNat:Nat):Int))=s.1:=by
   rw [Int.toNat_of_nonneg b1,Int.toNat_of_nonneg b3]
  rw [e1,Ji eC hs]
  refine ⟨rfl,?_⟩
  have:=J.st s hs
  unfold Dl
  obtain ⟨⟨a,b⟩,c,d⟩:=s
  unfold A1 nbM at this
  simp at this b1 b3 ⊢
  rw [Int.max_eq_left b1,Int.max_eq_left b3]
  by_cases hbd:b=d
  ·simp [hbd];lia
  ·simp [hbd];lia
def jn:List (List Nat)->List Nat
 |[]=>[]
 |[a]=>a
 |a::b::r=>a++10::jn (b::r)
theorem CK (x y:Str):(x++y).cps.toList=x.cps.toList++y.cps.toList:=by
 show (x.cps++y.cps).toList=_
 rw [Array.toList_append]
theorem Hb {x y:Str} (h:x.cps.toList=y.cps.toList):x=y:=by
 cases x;cases y
 simp only at h
 congr
 exact Array.toList_inj.mp h
theorem Jh:∀ps:List Str,(Str.join ⟨#[10]⟩ ps).cps.toList=jn (ps.map fun p=>p.cps.toList)
 |[]=>rfl
 |[a]=>rfl
 |a::b::r=>by
  show ((a++(⟨#[10]⟩:Str))++Str.join ⟨#[10]⟩ (b::r)).cps.toList=_
  rw [CK,CK,Jh (b::r)]
  show (a.cps.toList++[10])++_=a.cps.toList++10::_
  rw [List.append_assoc]
  rfl
theorem OB:∀ps:List Str,(Str.join (Str.ofString "") ps).cps.toList=(ps.map fun p=>p.cps.toList).flatten
 |[]=>rfl
 |[a]=>by
  show a.cps.toList=_
  simp
 |a::b::r=>by
  show ((a++Str.ofString "")++Str.join (Str.ofString "") (b::r)).cps.toList=_
  rw [CK,CK,OB (b::r)]
  rw [show (Str.ofString "").cps.toList=[] by decide +kernel]
  simp
theorem SV {a b u v:List Nat} (ha:10∉a) (hb:10∉b) (h:a++10::u=b++10::v):a=b/\u=v:=by
 induction a generalizing b with
 |nil=>
  cases b with
  |nil=>simpa using h
  |cons y b=>simp at h;simp [<-h.1]at hb
 |cons x a ih=>
  cases b with
  |nil=>simp at h;simp [h.1]at ha
  |cons y b=>
   simp at h ha hb
   obtain ⟨rfl,h⟩:=h
   obtain ⟨e1,e2⟩:=ih ha.2 hb.2 (by simpa using h)
   exact ⟨by rw [e1],e2⟩
theorem VE:∀{a b:List Nat} {r:List (List Nat)},10∈jn (a::b::r):=by
 intro a b r
 show 10∈a++10::jn (b::r)
 simp
theorem U4:∀{ps qs:List (List Nat)},ps≠[]->qs≠[]->(∀p∈ps,10∉p)->(∀q∈qs,10∉q)->jn ps=jn qs->ps=qs
 |[],_,h,_,_,_,_=>absurd rfl h
 |_,[],_,h,_,_,_=>absurd rfl h
 |[a],[b],_,_,_,_,h=>by rw [show a=b from h]
 |[a],b::c::r,_,_,ha,_,h=>by
  have:10∈jn [a]:=by rw [h];exact VE
  exact absurd this (ha a (by simp))
 |a::c::r,[b],_,_,_,hb,h=>by
  have:10∈jn [b]:=by rw [<-h];exact VE
  exact absurd this (hb b (by simp))
 |a::c::r,b::d::t,_,_,ha,hb,h=>by
  obtain ⟨e1,e2⟩:=SV (ha a (by simp)) (hb b (by simp)) (show a++10::jn (c::r)=b++10::jn (d::t)from h)
  rw [e1,U4 (ps:=c::r) (qs:=d::t) (by simp) (by simp) (fun p hp=>ha p (List.mem_cons_of_mem _ hp)) (fun p hp=>hb p (List.mem_cons_of_mem _ hp)) e2]
theorem R5:∀rows:List (List Nat),jn (rows++[[]])=rows.flatMap (·++[10])
 |[]=>rfl
 |[a]=>by simp [jn]
 |a::b::r=>by
  show a++10::jn (b::r++[[]])=_
  rw [R5 (b::r)]
  simp
theorem Ka (k:Lay) (p:Sq):sgn k p≠10:=fun h=>by
 rcases Jc h with ⟨t,_,_,e⟩|⟨t,_,_,e⟩|e
 ·unfold Dl at e;split at e<;>cases e
 ·unfold Dt at e;split at e<;>cases e
 ·cases e
theorem K6 (k:Lay) (w r:Nat):10∉A5 k w r:=by
 unfold A5
 intro h
 obtain ⟨c,_,e⟩:=List.mem_map.mp h
 exact Ka _ _ e
theorem VB (x y:Str):Txt.split x y≠[]:=by
 unfold Txt.split
 split
 ·simp
 ·split
  ·simp
  ·intro h
   have:=congrArg List.length h
   rw [length_partsBetween]at this
   simp at this
theorem J9 {x:Str} {k:Lay} {h w:Nat} (e:x.cps.toList=Ag k h w):(Txt.split x ⟨#[10]⟩).map (fun p=>p.cps.toList)=(List.range h).map (A5 k w)++[[]]:=by
 refine U4 ?_ (by simp) ?_ ?_ ?_
 ·intro q
  exact VB x ⟨#[10]⟩ (List.map_eq_nil_iff.mp q)
 ·intro p hp
  obtain ⟨q,hq,rfl⟩:=List.mem_map.mp hp
  exact StrLaws.split_free x 10 q hq
 ·intro q hq
  rcases List.mem_append.mp hq with hq|hq
  ·obtain ⟨r,_,rfl⟩:=List.mem_map.mp hq
   exact K6 k w r
  ·rw [List.mem_singleton.mp hq];simp
 ·rw [<-Jh,StrLaws.join_split,e,R5,List.flatMap_map]
  rfl
theorem XS {x y:Sq} (h:A1 y x):Bw false (sq x) (sq y)=false:=by
 obtain ⟨a,b⟩:=x
 obtain ⟨c,d⟩:=y
 show (if eqD (.int a) (.int c)=true then (if eqD (.int b) (.int d)=true then Bx false [] []else Bw false (.int b) (.int d))else Bw false (.int a) (.int c))=false
 unfold A1 at h
 simp only at h
 simp only [eqD,Bw,Bx,beq_iff_eq,Bool.false_eq_true,if_false]
 split
 ·split
  ·lia
  ·rw [decide_eq_false_iff_not];lia
 ·rw [decide_eq_false_iff_not];lia
theorem QD {s t:Ck} (h:A1 t.1 s.1):Bw false (Ap s) (Ap t)=false:=by
 show (if eqD (sq s.1) (sq t.1)=true then _ else Bw false (sq s.1) (sq t.1))=false
 have Co:s.1≠t.1:=fun e=>Ax _ (e▸h)
 rw [J6,decide_eq_false Co,if_neg Bool.false_ne_true]
 exact XS h
theorem MG {F:List Sq} (up:F.Pairwise A1):F.Pairwise fun x y=>TSq.le x y=true:=up.imp fun {x y} h=>by
 unfold TyD.le
 rw [show TSq.f=sq from rfl,Za]
 have:¬A1 y x:=fun h'=>Ax _ (Dh h h')
 simp [this]
theorem Hw {F:List Sq} (up:F.Pairwise A1) {l:Lay} (C:Cov F l):TSq.sort (AM l)=F:=
 TSq.uniq ((TSq.sort_perm _).trans C.pm) (TSq.sort_sorted _) (MG up)
theorem ET (l:Lay):(AM l).length=2*l.length:=by
 induction l with
 |nil=>rfl
 |cons a l ih=>simp only [AM,List.flatMap_cons,List.length_append,List.length_cons,List.length_nil]at *;lia
theorem Ry (l:List Sq):eqL (l.map sq) (l.map sq)=true:=by
 induction l with
 |nil=>rfl
 |cons a l ih=>
  show (eqD (sq a) (sq a)&&eqL (l.map sq) (l.map sq))=true
  rw [ih,J6]
  simp
theorem PXT.cast {X:Cx} {ρ:Rho} {G:Gs} {e:Expr} {p q:Bool} (h:PXT X ρ G e p) (z:p=q):PXT X ρ G e q:=z▸h
def Jg:SpD:=fun ds G R=>∃(F:List Sq) (l:Lay),ds=[fl F,lay l]/\F.Pairwise A1/\F.length≤24/\IsLay F l/\R (.bl true) G
end TF
namespace TF
open PySem
def Clr (h:Heap) (e:Addr):Prop:=∃oe vs,h.get? e=some oe/\oe.data=.fields vs/\vs[2]?=some .none
theorem Clr.push {h:Heap} {e:Addr} {o:Obj} (b:Clr h e):Clr (h.push o) e:=by
 obtain ⟨oe,vs,a,b,c⟩:=b
 exact ⟨oe,vs,Heap.get?_push_of_some _ a,b,c⟩
theorem Clr.set {h:Heap} {e b:Addr} {i:Nat} {v:Value} (g:Clr h e) (hi:i≠2\/e≠b):Clr (h.update b (Obj.mapFields (·.setIfInBounds i v))) e:=by
 obtain ⟨oe,vs,h1,h2,h3⟩:=g
 by_cases q:e=b
 ·subst q
  have hd:=Obj.data_mapFields h2 (·.setIfInBounds i v)
  exact ⟨_,_,Heap.get?_update_self _ h1 (Obj.isFreed_of_fields hd),hd,by rw [Array.getElem?_setIfInBounds_ne (hi.resolve_right fun z=>z rfl)];exact h3⟩
 ·exact ⟨oe,vs,(Heap.get?_update_other _ _ (Ne.symm q)).trans h1,h2,h3⟩
section
variable {M:Model}{A:Around}{E:Value->Shared->Prop}{s:Shared}{base:Heap}{env:Env}{outer l:List Env}{L e:Addr}{oe:Obj}{vs:Array Value}{head a0 cls:Value}{Q:Unit->Shared->Prop}
def Wrt (base:Heap) (l:List Env) (e:Addr) (cls a0 fl:Value) (h h':Heap):Prop:=Heap.NotedW base l e cls a0 fl h h'/\(Clr h e->Clr h' e)
theorem VG {X3:Bool} (IF:A.frames=some (env::outer)) (hl:s.heap.FunFrames base (env::outer)) (hf:env.frame=some L)
  (he:s.heap.get? e=some oe) (Nt:base.StaysIn s.heap) (Qm:base.get? e=none) (hd:oe.data=.fields vs) (hsz:1<vs.size) (h0:vs[0]?=some a0)
  (h:∀h',Wrt base (env::outer) e oe.cls a0 (rawInt L) s.heap h'->Q () { s with heap:=h' }) :
  wpAny M A (do let a <-frameOf env;let pl <-entryPlaceOf L X3;let b <-EntryCells.newEntry head a .none (rawInt L) .none pl;setField (.ref e) 1 b) Q E s:=by
 have fv:e∉(env::outer).filterMap (·.frame):=fun hm=>by
  obtain ⟨_,o,ho,MZ⟩:=hl.mem hm
  rw [he]at ho
  cases ho
  exact MZ vs hd
 refine wpAny_bind (wpAny_frameOf_fun IF hl hf fun h₁ hs₁=>wpAny_bind (wpAny_entryPlaceOf fun pl hpl=>?_))
 unfold EntryCells.newEntry newFields
 refine wpAny_bind (wpAny_newObj_type ?_ (hpl.sizeOk5 _ _ _ _ _))
 have he₁:h₁.get? e=some oe:=(hs₁.2.1 e fv).trans he
 have kb₁:base.StaysIn h₁:=fun b o QG=>(hs₁.2.1 b fun hm=>by rw [(hl.mem hm).1]at QG;cases QG).trans (Nt b o QG)
 generalize htb:({ cls:=.type "traceback",dict:=none,data:=.fields ([head,.ref L,.none,rawInt L,.none]++(if pl.isEmpty then List.replicate 6 Value.none else pl)).toArray }:Obj)=tb
 have jR:∃ts,tb.data=.fields ts/\ts[3]?=some (rawInt L):=by
  subst htb
  exact ⟨_,rfl,by first|(simp;done)|(rcases hpl with rfl|⟨_,_,_,_,_,_,_,rfl⟩<;>simp)⟩
 have vC:tb.isFreed=false:=by subst htb;rfl
 have he₂:=Heap.get?_push_of_some (h:=h₁) tb he₁
 refine wpAny_setField he₂ hd hsz (h _ ?_)
 have Vk:h₁.objs.size≠e:=Nat.ne_of_gt (Heap.lt_size he₁)
 have hd₃:=Obj.data_mapFields hd (·.setIfInBounds 1 (Value.ref h₁.objs.size))
 have keep:∀b o,b≠e->h₁.get? b=some o->((h₁.push tb).update e (Obj.mapFields (·.setIfInBounds 1 (Value.ref h₁.objs.size)))).get? b=some o:=fun b o hb q=>
  (Heap.get?_update_other _ _ (Ne.symm hb)).trans (Heap.get?_push_of_some _ q)
 have JT:∀b o,s.heap.get? b=some o->(∀vs,o.data≠.fields vs)->b≠e:=fun b o hb MZ q=>by
  rw [q,he]at hb
  cases hb
  exact MZ vs hd
 obtain ⟨ts,jR,h3⟩:=jR
 refine ⟨⟨fun b o QG=>keep b o (fun q=>by rw [q,Qm]at QG;cases QG) (kb₁ b o QG),hl.of_keeps fun b o hb MZ=>?_,?_,fun b o hb MZ=>?_⟩,fun g=>Clr.set (Clr.push ?_) (.inl (by decide))⟩
 ·obtain ⟨sl,hs⟩:=hs₁.2.2 b o hb
  exact ⟨_,keep b _ (JT b o hb MZ) hs,rfl⟩
 ·exact ⟨_,_,h₁.objs.size,tb,ts,Heap.get?_update_self _ he₂ (Obj.isFreed_of_fields hd₃),⟨Obj.cls_mapFields _ _,by rw [Array.getElem?_setIfInBounds_ne (by decide)];exact h0⟩,hd₃,by simp [hsz],kb₁.fresh,Vk,(Heap.get?_update_other _ _ (Ne.symm Vk)).trans (Heap.get?_push_size h₁ vC),jR,h3⟩
 ·obtain ⟨sl,hs⟩:=hs₁.2.2 b o hb
  exact ⟨sl,keep b _ (JT b o hb MZ) hs⟩
 ·obtain ⟨o,LJ,q1,q2⟩:=g
  exact ⟨o,LJ,(hs₁.2.1 e fv).trans q1,q2⟩
theorem KP (IF:A.frames=some (env::outer)) (hl:s.heap.FunFrames base (env::outer)) (hf:env.frame=some L)
  (he:s.heap.get? e=some oe) (Nt:base.StaysIn s.heap) (Qm:base.get? e=none) (hd:oe.data=.fields vs) (h1:vs[1]?=some .none) (h0:vs[0]?=some a0)
  (h:∀h',Wrt base (env::outer) e oe.cls a0 (rawInt L) s.heap h'->Q () { s with heap:=h' }):wpAny M A (noteFrame (.ref e) env) Q E s:=by
 unfold noteFrame
 simp only [hf]
 refine wpAny_bind (wpAny_field he hd h1 ?_)
 rw [if_neg (by decide)]
 exact VG IF hl hf he Nt Qm hd (Array.getElem?_eq_some_iff.mp h1).1 h0 h
theorem Xw (IF:A.frames=some (env::outer)) (hf:env.frame=some L) (fl:Heap.FlyingW base (env::outer) e cls a0 s.heap)
  (h:∀h',Heap.HeldW base (env::outer) e cls a0 L h'->s.heap.UpToSlots h'->(Clr s.heap e->Clr h' e)->Q () { s with heap:=h' }):wpAny M A (noteFrame (.ref e) env) Q E s:=by
 obtain ⟨Nt,Qm,hl,oe,vs,T,oT,ts,he,⟨QA,h0⟩,hd,h1,hJ,Vk,hT,ZC,h3⟩:=fl
 subst QA
 unfold noteFrame
 simp only [hf]
 refine wpAny_bind (wpAny_field he hd h1 ?_)
 rw [if_pos (show (Value.ref T != Value.none)=true from by simp)]
 refine wpAny_bind (wpAny_field hT ZC h3 ?_)
 rw [if_neg (show ¬((Value.none==rawInt L)=true)from by simp [rawInt])]
 refine wpAny_bind (wpAny_setField hT ZC (Array.getElem?_eq_some_iff.mp h3).1 ?_)
 have other:∀b,b≠T->(s.heap.update T (Obj.mapFields (·.setIfInBounds 3 Value.none))).get? b=s.heap.get? b:=fun b hb=>Heap.get?_update_other _ _ (Ne.symm hb)
 have JT:∀b o,s.heap.get? b=some o->(∀vs,o.data≠.fields vs)->b≠T:=fun b o hb MZ q=>by
  rw [q,hT]at hb
  cases hb
  exact MZ ts ZC
 refine VG IF (hl.of_keeps fun b o hb MZ=>⟨o,(other b (JT b o hb MZ)).trans hb,rfl⟩) hf ((other e (Ne.symm Vk)).trans he)
  (fun b o QG=>(other b fun q=>by rw [q,hJ]at QG;cases QG).trans (Nt b o QG)) Qm hd (Array.getElem?_eq_some_iff.mp h1).1 h0
  fun h' ⟨⟨x1,x2,x3,x4⟩,x5⟩=>h h' ⟨x1,Qm,x2,x3⟩ (fun b o hb MZ=>x4 b o ((other b (JT b o hb MZ)).trans hb) MZ) fun g=>x5 (Clr.set g (.inl (by decide)))
theorem Nq {fr:Option Addr} {fl:Value} (Nt:base.StaysIn s.heap) (hl:s.heap.FunFrames base l) (ht:s.heap.TracedAtW base e cls a0 fl)
  (h:∀h',base.StaysIn h'->h'.FunFrames base l->h'.TracedAtW base e cls a0 (fr.elim .none fun f=>rawInt f)->s.heap.UpToSlots h'->(Clr s.heap e->Clr h' e)->Q () { s with heap:=h' }):wpAny M A (setFlight (.ref e) fr) Q E s:=by
 obtain ⟨oe,vs,T,oT,ts,he,QA,hd,h1,hJ,Vk,hT,ZC,h3⟩:=ht
 have Mn:3<ts.size:=(Array.getElem?_eq_some_iff.mp h3).1
 have other:∀b,b≠T->(s.heap.update T (Obj.mapFields (·.setIfInBounds 3 (fr.elim Value.none fun f=>rawInt f)))).get? b=s.heap.get? b:=fun b hb=>Heap.get?_update_other _ _ (Ne.symm hb)
 have JT:∀b o,s.heap.get? b=some o->(∀vs,o.data≠.fields vs)->b≠T:=fun b o hb MZ q=>by
  rw [q,hT]at hb
  cases hb
  exact MZ ts ZC
 unfold setFlight
 refine wpAny_bind (wpAny_field he hd h1 ?_)
 rw [if_pos (show (Value.ref T != Value.none)=true from by simp)]
 refine wpAny_setField hT ZC Mn (h _ (fun b o QG=>(other b fun q=>by rw [q,hJ]at QG;cases QG).trans (Nt b o QG))
  (hl.of_keeps fun b o hb MZ=>⟨o,(other b (JT b o hb MZ)).trans hb,rfl⟩) ?_ (fun b o hb MZ=>⟨o.slots,(other b (JT b o hb MZ)).trans hb⟩) fun g=>Clr.set g (.inl (by decide)))
 exact ⟨oe,vs,T,_,_,(other e (Ne.symm Vk)).trans he,QA,hd,h1,hJ,Vk,Heap.get?_update_self _ hT (Obj.isFreed_of_fields (Obj.data_mapFields ZC _)),Obj.data_mapFields ZC _,by simp [Mn]⟩
end
end TF
namespace TF
open PySem PySem.Spec L2
open PyProof.Rows hiding St RelV
structure Fly (P:Program) (w:World) (outer:List Env) (H:Hp) (h:Heap) (H':Hp) (h':Heap) (ea:Addr) (cls:Value):Prop where
 ex:∃a0 B,Heap.FlyingW B outer ea cls a0 h'/\HOk P w H' B/\(∀b o,h.get? b=some o->H b=none->b∉frs outer->B.get? b=some o)/\∀b o,h.get? b=some o->b∉frs outer->∃o',B.get? b=some o'
 un:Un (frs outer) [] H H' h h'
 free:H' ea=none
theorem Fly.hok {P:Program} {w:World} {outer:List Env} {H H':Hp} {h h':Heap} {ea:Addr} {cls:Value} (f:Fly P w outer H h H' h' ea cls):HOk P w H' h':=by
 obtain ⟨a0,B,fl,hb,_⟩:=f.ex
 exact hb.kept fl.1
def CXV (P:Program) (w:World):CXT:=fun outer H s E e s'=>∃ea cls H',e=.ref ea/\s'.os=s.os/\AllBare s'.gens/\Fly P w outer H s.heap H' s'.heap ea cls/\E cls none H'
theorem Sf {outer:List Env} {H H':Hp} {h h1 h2:Heap} (un:Un (frs outer) [] H H' h h1) {B:Heap} (c1:∀b o,h.get? b=some o->H b=none->b∉frs outer->B.get? b=some o) (c2:∀b o,h.get? b=some o->b∉frs outer->∃o',B.get? b=some o')
  {outer0:List Env} (ff:h1.FunFrames B outer0) (Lq:∀b∈frs outer,b∈frs outer0) (st:B.StaysIn h2) (up:h1.UpToSlots h2):Un (frs outer) [] H H' h h2:=by
 refine ⟨fun b o q n O5 _=>st b o (c1 b o q n O5),fun b o q n O5 _=>?_,un.free,fun b o q _=>?_,un.tups,un.frzs,un.tbls⟩
 ·obtain ⟨sl,e⟩:=un.slot b o q n O5 (by simp)
  obtain ⟨_,o2,e2,hd⟩:=ff.mem (Lq b O5)
  rw [e]at e2
  cases e2
  obtain ⟨Vc,e3⟩:=up b _ e hd
  exact ⟨Vc,e3⟩
 ·by_cases hf:b∈frs outer
  ·obtain ⟨_,o2,e2,hd⟩:=ff.mem (Lq b hf)
   obtain ⟨Vc,e3⟩:=up b _ e2 hd
   exact ⟨_,e3⟩
  ·obtain ⟨o',e⟩:=c2 b o q hf
   exact ⟨o',st b o' e⟩
theorem Fly.step {P:Program} {w:World} {outer:List Env} {H H':Hp} {h h1 h2:Heap} {ea:Addr} {cls:Value} (un:Un (frs outer) [] H H' h h1) (free:H' ea=none) {a0:Value} {B:Heap} (hb:HOk P w H' B) (c1:∀b o,h.get? b=some o->H b=none->b∉frs outer->B.get? b=some o) (c2:∀b o,h.get? b=some o->b∉frs outer->∃o',B.get? b=some o')
  {outer0:List Env} (ff:h1.FunFrames B outer0) (Lq:∀b∈frs outer,b∈frs outer0) (fl:Heap.FlyingW B outer ea cls a0 h2) (up:h1.UpToSlots h2):Fly P w outer H h H' h2 ea cls:=
 ⟨⟨a0,B,fl,hb,c1,c2⟩,Sf un c1 c2 ff Lq fl.1 up,free⟩
theorem Nx {P:Program} {w:World} {H:Hp} {h:Heap} {fs:List Addr} (ok:HOk P w H h) (free:∀c∈fs,H c=none):HOk P w H (PySem.W.hideAll h fs):=fun b u q=>by
 have nb:∀c v,H c=some v->c∉fs:=fun c v r hc=>by
  have:=free c hc
  rw [r]at this
  cases this
 refine (ok b u q).stay (fun c o hc r=>?_) (fun _ r=>r) fun _ _ r=>r
 rcases hc with rfl|hc
 ·exact PySem.W.hideAll_get _ r (nb _ _ q)
 ·exact PySem.W.hideAll_get _ r (nb _ _ hc)
theorem Sa {P:Program} {w:World} {H:Hp} {h:Heap} {ea:Addr} (ok:HOk P w H h) (new:h.get? ea=none):H ea=none:=by
 cases q:H ea with
 |none=>rfl
 |some u=>
  have hl:=(ok ea u q)
  have:∃o,h.get? ea=some o:=by
   cases u with
   |lst xs=>obtain ⟨_,_,_,_,e⟩:=hl;exact ⟨_,e⟩
   |tup xs=>obtain ⟨_,_,_,o,e,_⟩:=hl;exact ⟨_,e⟩
   |dK kvs=>obtain ⟨_,_,_,_,o,_,_,e,_⟩:=hl;exact ⟨_,e⟩
   |dT kvs=>obtain ⟨_,_,_,_,o,_,_,e,_⟩:=hl;exact ⟨_,e⟩
   |set S n=>obtain ⟨o,_,_,_,e,_⟩:=hl;exact ⟨_,e⟩
   |ins C dx fs=>obtain ⟨_,_,_,e,_⟩:=hl;exact ⟨_,e⟩
   |own y=>obtain ⟨_,e⟩:=hl;exact ⟨_,e⟩
   |xd fs=>obtain ⟨_,⟨_,_,_,e,_⟩,_⟩:=hl;exact ⟨_,e⟩
   |rng lo hi=>obtain ⟨_,_,_,e⟩:=hl;exact ⟨_,e⟩
   |frz ob u=>obtain ⟨e,_⟩:=hl;exact ⟨_,e⟩
   |tbl ps=>exact ⟨_,(show h.get? ea=some _ from hl)⟩
   |met f y=>exact ⟨_,(show h.get? ea=some _ from hl)⟩
   |ext φ=>obtain ⟨_,⟨o,e⟩,_⟩:=hl;exact ⟨_,e⟩
  obtain ⟨o,e⟩:=this
  rw [new]at e
  cases e
section
variable {X:Cx}{pins:List (Addr×Obj)}{σ:St}{H:Hp}{s:Shared}
theorem Kv {env:Env} {l:List Env} {L:Addr} (h:env.frame=some L):frs (env::l)=L::frs l:=by
 unfold frs
 rw [List.filterMap_cons,h]
theorem Ot {E:Value->Shared->Prop} (I:Inv X pins σ H s) (hx:X.ex=[]) (D4:X.stack=X.env::X.outer) (IF:X.env.frame=some X.env.locals) {h2:Heap} {ea:Addr} {cls:Value} {args:List Value} (hm:Heap.MadeExcOf s.heap h2 ea cls args) {tk:Nat} {Q:Unit->Shared->Prop}
  (hQ:∀h',Fly X.prog X.w X.outer X.H₀ X.s₀.heap H h' ea cls->Clr h' ea->Q () { s with heap:=h',toks:=tk }):wpAny (model X.prog X.w) X.A (leaving X.env (.ref ea)) Q E { s with heap:=h2,toks:=tk }:=by
 have stk:=I.stack
 have free:=I.stkFree
 have KL:=I.ok.frames
 rw [D4]at stk KL free
 have Jt:∀env∈(X.env::X.outer),∀a,env.frame=some a->a∈(X.env::X.outer).filterMap (·.frame):=fun env he b hb=>List.mem_filterMap.mpr ⟨env,he,hb⟩
 have cc:(X.env::X.outer).filterMap (·.frame)=X.env.locals::frs X.outer:=Kv IF
 have Wt:∀b o,X.s₀.heap.get? b=some o->b≠X.env.locals:=fun b o e=>Nat.ne_of_lt (Nat.lt_of_lt_of_le (Heap.lt_size e) I.ok.above)
 have Sm:∀b o,X.s₀.heap.get? b=some o->b∉frs X.outer->b∉(X.env::X.outer).filterMap (·.frame):=fun b o e hb JP=>by
  rw [cc]at JP
  rcases List.mem_cons.mp JP with z|z
  ·exact Wt b o e z
  ·exact hb z
 have bz:=Nx I.hok free
 have Nt:(PySem.W.hideAll s.heap ((X.env::X.outer).filterMap (·.frame))).StaysIn s.heap:=fun b o q=>PySem.W.of_hideAll _ q
 have fM:=PySem.W.funFrames_hide stk Jt
 obtain ⟨t,he,ym,ht⟩:=hm.there
 have fresh:∀b,s.heap.get? b=none->(PySem.W.hideAll s.heap ((X.env::X.outer).filterMap (·.frame))).get? b=none:=fun b hb=>by
  cases hq:(PySem.W.hideAll s.heap ((X.env::X.outer).filterMap (·.frame))).get? b with
  |none=>rfl
  |some o'=>have:=Nt b o' hq;rw [hb]at this;cases this
 unfold leaving
 refine wpAny_bind (KP (s:={ s with heap:=h2,toks:=tk }) (a0:=.ref t) KL (fM.of_keeps fun b o hb _=>⟨o,hm.keeps b o hb,rfl⟩) IF he (fun b o hb=>hm.keeps b o (Nt b o hb)) (fresh ea hm.new) rfl rfl rfl fun h3 ⟨⟨k1,k2,k3,k4⟩,k5⟩=>?_)
 refine Nq (s:={ s with heap:=h3,toks:=tk }) k1 k2 k3 fun h' l1 l2 l3 l4 l5=>?_
 refine hQ h' ?_ (l5 (k5 ⟨_,_,he,rfl,rfl⟩))
 have uW:Un X.fs [] X.H₀ H X.s₀.heap h2:=by
  have:=I.base
  rw [hx]at this
  exact this.trans (Un.kept hm.keeps)
 have JL:H ea=none:=Sa I.hok hm.new
 refine Fly.step uW JL bz (fun b o q n hb=>?_) (fun b o q hb=>?_) (outer0:=X.env::X.outer) ((PySem.W.funFrames_hide stk Jt).of_keeps fun b o hb _=>⟨o,hm.keeps b o hb,rfl⟩) (fun b hb=>by rw [Kv IF];exact List.mem_cons_of_mem _ hb) ⟨l1,fresh ea hm.new,l2.2.2,l3⟩ (Heap.UpToSlots.trans (fun b o q n=>k4 b o q n) l4)
 ·have e:=I.base.keep b o q n hb (by rw [hx];simp)
  exact PySem.W.hideAll_get _ e (Sm b o q hb)
 ·obtain ⟨o',e⟩:=I.base.there b o q (by rw [hx];simp)
  exact ⟨o',PySem.W.hideAll_get _ e (Sm b o q hb)⟩
end
def XPr (X:Cx) (pins:List (Addr×Obj)) (H:Hp) (G:Gs) (RX:Value->Gs->Prop) (e:Value) (s':Shared):Prop:=
 ∃ea cls args σ' H' G' s1 h2 tk,e=.ref ea/\s'={ s1 with heap:=h2,toks:=tk }/\Inv X pins σ' H' s1/\Heap.MadeExcOf s1.heap h2 ea cls args/\Ext H G H' G'/\GOk X.K H' G'/\RX cls G'
theorem XPr.trans {X:Cx} {pins:List (Addr×Obj)} {H H1:Hp} {G G1:Gs} {RX:Value->Gs->Prop} {e:Value} {s':Shared} (x:Ext H G H1 G1) (h:XPr X pins H1 G1 RX e s'):XPr X pins H G RX e s':=by
 obtain ⟨ea,cls,args,σ',H',G',s1,h2,tk,a,b,c,d,f,g,r⟩:=h
 exact ⟨ea,cls,args,σ',H',G',s1,h2,tk,a,b,c,d,x.trans f,g,r⟩
def K2 (X:Cx) (ρ:Rho) (G:Gs) (st:List Stmt) (D:DE) (RX:Value->Gs->Prop):Prop:=
 ∀(pins:List (Addr×Obj)) (s:Shared) (σ:St) (H:Hp),Inv X pins σ H s->Stt X H σ ρ G->wpAny (model X.prog X.w) X.A (execs st X.env) (SP X pins (En X H G D)) (XPr X pins H G RX) s
section
variable {X:Cx}{ρ:Rho}{G:Gs}{D:DE}{RX:Value->Gs->Prop}{st:Stmt}{rest:List Stmt}{c:Expr}{pos:Pos}
theorem RV {l:List Stmt} (h:WSs X ρ G l D) (hx:X.xe=fun _ _=>False):K2 X ρ G l D RX:=fun pins s σ H I S=>by
 have:=h pins s σ H I S
 rw [hx]at this
 exact wpAny_mono this (fun _ _ z=>z) fun _ _ z=>z.elim
theorem V4 {x:List Stmt} (hc:WT X ρ G c fun b G'=>(b=true->K2 X ρ G' x { D with nx:=fun _ _=>False } RX)/\(b=false->K2 X ρ G' rest D RX)) (hx:X.xe=fun _ _=>False):K2 X ρ G (.If c x [] pos::rest) D RX:=by
 intro pins s σ H I S
 have ZY:=hc pins s σ H I S
 rw [hx]at ZY
 refine wpAny_execs_cons (wpAny_If (wpAny_mono ZY (fun b s1 ⟨H1,I1,G1,e1,o1,q1⟩=>?_) fun _ _ z=>z.elim))
 cases b with
 |true=>
  rw [if_pos rfl]
  refine wpAny_mono (q1.1 rfl pins s1 σ H1 I1 (S.ext e1 o1)) (fun f s2 z=>?_) fun _ _ z=>XPr.trans e1 z
  cases f with
  |next=>obtain ⟨_,_,_,_,_,_,_,q⟩:=z;exact q.elim
  |ret v=>exact SP.trans (D:=D) e1 z
  |brk=>exact SP.trans (D:=D) e1 z
  |cont=>exact SP.trans (D:=D) e1 z
 |false=>
  rw [if_neg Bool.false_ne_true]
  exact wpAny_execs_nil (wpAny_mono (q1.2 rfl pins s1 σ H1 I1 (S.ext e1 o1)) (fun _ _ z=>SP.trans e1 z) fun _ _ z=>XPr.trans e1 z)
theorem Fw {x:List Stmt} {b:Bool} (hc:PXT X ρ G c b) (ht:b=true->K2 X ρ G x { D with nx:=fun _ _=>False } RX) (hf:b=false->K2 X ρ G rest D RX) (hx:X.xe=fun _ _=>False):K2 X ρ G (.If c x [] pos::rest) D RX:=
 V4 (K7 hc ⟨ht,hf⟩) hx
end
theorem EW {K:PySem.W.Frag} {h:Heap} {C:Addr} {IS:List Value} {newId:String} (X:K.In h) (q:PySem.W.excIn K C IS newId=true) :
  ∃bm N nm qn bs hdct sn sub ab col dd k0 k1 k2 k3 k5 mN,h.get? C=some (excClassObj nm qn C N bs bm hdct sn sub ab col dd k0 k1 k2 k3 k5 newId)/\h.Ns N mN/\mN "__init__"=none/\OwnTail h IS bm/\K.lookup C=some (excClassObj nm qn C N bs bm hdct sn sub ab col dd k0 k1 k2 k3 k5 newId):=by
 unfold PySem.W.excIn at q
 split at q
 ·rename_i vX gu mF ZD
  split at q
  ·rename_i C0 uO a0 a1 a2 a3 yt a5 dC qk
   simp only [Bool.and_eq_true,beq_iff_eq,Bool.not_eq_true']at q
   obtain ⟨⟨⟨⟨⟨rfl,rfl⟩,Ys⟩,tl⟩,cJ⟩,VN⟩:=q
   obtain ⟨wL,xl,mJ,u7,sd,vD,vn,dY,xi,kT,uN⟩:=gu
   dsimp only at dC Ys cJ VN
   subst dC Ys
   obtain ⟨wJ⟩:=mF
   simp only at qk
   subst qk
   exact ⟨uO,u7,wL,sd,xl,vD,vn,dY,xi,kT,vX,a0,a1,a2,a3,a5,_,X _ _ ZD,.of_isNs (PySem.W.isNs_of_in X cJ),PySem.W.nsMap_none_of_in X cJ VN,PySem.W.tail_of_in X tl,ZD⟩
  ·cases q
 ·cases q
section
variable {X:Cx}{ρ:Rho}{G:Gs}{D:DE}{RX:Value->Gs->Prop}{rest:List Stmt}{es:List Expr}{e₀:Expr}{ds:List Dat}{pos np Ae:Pos}{x:Str}{C:Addr}{IS:List Value}{newId Qh Bn:String}
theorem CN (hx:X.xe=fun _ _=>False) (B9:X.calm=true) (hC:PySem.W.excIn X.K C IS newId=true) (FB:ExcBaseFacts Bn newId Qh IS) (hm:X.mg x=some (.ref C)) (ha:PXs X ρ G (e₀::es) ds) (hl:ds.length≤1000) (r:RX (.ref C) G) (hg:Gl X x:=by rfl)
  (E8:(x==("__debug__":Str))=false:=by decide) (he:starEach (e₀::es) X.env=(false,eval e₀ X.env)::starEach es X.env:=by rfl) (hpl:(backTo Ae (starEach es X.env)).any (·.1)=false:=by rfl):K2 X ρ G (.Raise (some (.Call (.Name x np) (e₀::es) [] Ae)) none pos::rest) D RX:=by
 intro pins s σ H I S
 obtain ⟨bm,N,nm,qn,bs,hdct,sn,sub,ab,col,dd,k0,k1,k2,k3,k5,mN,oC,oN,oi,tl,_⟩:=EW I.mod.kin hC
 refine wpAny_execs_cons ?_
 refine wpAny_Raise_call_subT (C:=C) (nm:=nm) (q:=qn) (N:=N) (bs:=bs) (bm:=bm) (hdct:=hdct) (sn:=sn) (sub:=sub) (ab:=ab) (col:=col) (dd:=dd) (k0:=k0) (k1:=k1) (k2:=k2) (k3:=k3) (k5:=k5) FB (mN:=mN) (tl.hasType FB.hasBase) (I.ok.hd B9)
  (by rw [he];show (false||(backTo Ae (starEach es X.env)).any (·.1))=false;rw [hpl];rfl) oi (Du I hg hm ⟨rfl,?_⟩ E8)
 have h1:=ha Ae pins s σ H I S
 rw [hx]at h1
 rw [he]at h1 ⊢
 refine Calls.evalArgs_plain (wpAny_mono h1 (fun us s2 ⟨vs,H2,I2,rv,d',G2,e2,o2,rep,q1,q2⟩=>?_) fun _ _ z=>z.elim)
 subst q1
 subst q2
 refine ⟨rfl,?_,I2.bk _ _ oC,oN.keeps I2.bk,tl.keeps I2.bk,fun h' e JP=>?_⟩
 ·have:us.length≤1000:=by rw [<-rv.length,rep.length];exact hl
  exact Nat.le_trans this (by rw [sizeLine_eq];decide)
 ·exact ⟨e,.ref C,us,σ,H2,G2,s2,h',s2.toks,rfl,rfl,I2,JP,e2,o2,r⟩
end
abbrev SpX:=List Dat->Gs->(Dat->Gs->Prop)->(Value->Gs->Prop)->Prop
def JM (K:PySem.W.Frag) (S:SpX):Sp:=fun vs H Q E=>∃ds G R RX,GOk K H G/\RepL K (hid H G) ds vs/\S ds G R RX/\(∀v H' d G',Ext H G H' G'->GOk K H' G'->Rep K (hid H' G') d v->R d G'->Q v H')/\∀cls H' G',Ext H G H' G'->GOk K H' G'->RX cls G'->E cls none H'
section
variable {P:Program}{w:World}{K:PySem.W.Frag}{mg:Str->Option Value}{base:Heap}
def CXC (P:Program) (w:World):CXT:=fun outer H s E e s'=>∃ea cls H',e=.ref ea/\s'.os=s.os/\AllBare s'.gens/\Fly P w outer H s.heap H' s'.heap ea cls/\Clr s'.heap ea/\E cls none H'
theorem cF {k:Nat} {f:Addr} {fd:FuncData} {ps:List Str} {sp:Sp} (F:FnOk P w K mg base (CXC P w) k f fd ps sp):FnOk P w K mg base (CXV P w) k f fd ps sp:=
 ⟨F.len,fun A outer s H args us vs Q E hr he hb hv hs=>codeAny_mono (F.run A outer s H args us vs Q E hr he hb hv hs) fun r s' hq=>by
  cases r with
  |error er=>obtain ⟨ea,cls,H',a,b,c,d,_,e⟩:=hq;exact ⟨ea,cls,H',a,b,c,d,e⟩
  |ok fl=>cases fl<;>exact hq⟩
theorem Zv {x qual:Str} {st:Stmt} {f:Addr} {fd:FuncData} {N ps:List Str} {k:Nat} {S:SpX} (F:Fun K x qual st f fd) (Sc:FnScope N ps (AB st)) (hlen:∀ds G R RX,S ds G R RX->ds.length=ps.length)
  (hb:∀(BO:Value) (A:Around) (outer:List Env) (s:Shared) (H:Hp) (E:XK) (ds:List Dat) (G:Gs) (R:Dat->Gs->Prop) (RX:Value->Gs->Prop),Room k (A.deeper (envOfC qual (AB st) s.heap.objs.size f BO))->S ds G R RX →
   K2 (El CX0 P w K mg base N qual (AB st) f BO A outer s H E).nox (G6 N ds) G (AH st) { nx:=fun _ G'=>R .non G',rt:=R } RX):FnOk P w K mg base (CXC P w) (k+1) f fd ps (JM K S):=by
 obtain ⟨oc,od,kV,doc,pm,an,BO,ct,Ws,rfl,lk,Qt⟩:=F.ex
 refine Vt lk Qt Sc (fun vs H Q E h=>?_) (fun A outer s H vs Q E hr h=>?_)
 ·obtain ⟨ds,G,R,RX,_,r,hS,_⟩:=h
  rw [r.length];exact hlen ds G R RX hS
 ·obtain ⟨ds,G,R,RX,o,r,hS,k1,k2⟩:=h
  refine ⟨fun D σ H1=>D={ nx:=fun _ H'=>Q .non H',rt:=Q }/\σ=start N vs/\H1=H,?_,rfl,rfl,rfl⟩
  intro pins s1 σ H1 D I hq
  obtain ⟨rfl,rfl,rfl⟩:=hq
  have hw:=hb BO A outer s H1 E ds G R RX hr hS pins s1 (start N vs) H1 (I.wish fun _ _=>False) (IT o r)
  refine wpAny_mono hw (fun fl s2 z=>?_) fun e s2 z=>?_
  ·refine SP.le (SP.unwish (X:=El (CXC P w) P w K mg base N qual (AB st) f BO A outer s H1 E) (E:=fun _ _=>False) z) (fun σ' H'=>?_) (fun v H'=>?_) (fun σ' H'=>?_) fun σ' H'=>?_
   ·rintro ⟨ρ',G',e',S',q⟩
    exact k1 .non H' .non G' e' S'.own rfl q
   ·rintro ⟨d,G',e',o',r',q⟩
    exact k1 v H' d G' e' o' r' q
   ·rintro ⟨_,_,_,_,q⟩;exact q
   ·rintro ⟨_,_,_,_,q⟩;exact q
  ·obtain ⟨ea,cls,args,σ',H',G',s3,h2,tk,rfl,rfl,I3,hm,ex,go,rx⟩:=z
   have J:Inv (El (CXC P w) P w K mg base N qual (AB st) f BO A outer s H1 E) pins σ' H' s3:=Inv.unwish (E:=fun _ _=>False) I3
   refine Ot (X:=El (CXC P w) P w K mg base N qual (AB st) f BO A outer s H1 E) J rfl rfl rfl hm fun h' Ke bg=>?_
   exact ⟨ea,cls,H',rfl,J.os,J.bare,Ke,bg,k2 cls H' G' ex go rx⟩
end
structure DfX (P:Program) (w:World) (K:PySem.W.Frag) (mg:Str->Option Value) (base:Heap) (x:Str) (ps:List Str) (k:Nat) (S:SpX):Prop where
 ex:∃f fd,FnOk P w K mg base (CXV P w) k f fd ps (JM K S)/\mg x=some (.ref f)/\PySem.W.keepIn K (.ref f)=true/\Binds K fd ps []
structure DfC (P:Program) (w:World) (K:PySem.W.Frag) (mg:Str->Option Value) (base:Heap) (x:Str) (ps:List Str) (k:Nat) (S:SpX):Prop where
 ex:∃f fd,FnOk P w K mg base (CXC P w) k f fd ps (JM K S)/\mg x=some (.ref f)/\PySem.W.keepIn K (.ref f)=true/\Binds K fd ps []
theorem DfC.toV {P:Program} {w:World} {K:PySem.W.Frag} {mg:Str->Option Value} {base:Heap} {x:Str} {ps:List Str} {k:Nat} {S:SpX} (F:DfC P w K mg base x ps k S):DfX P w K mg base x ps k S:=by
 obtain ⟨f,fd,a,b⟩:=F.ex
 exact ⟨f,fd,cF a,b⟩
section
variable {M:Model}{A:Around}{E:Value->Shared->Prop}
theorem PH {h:Heap} {g:Array GenState} {d:Drawn} {t:Nat} {os:OsState} {e C Dc:Addr} {oe:Obj} {Q:Bool->Shared->Prop}
  {nm q:Str} {N:Addr} {bs bm:List Value} {hdct:Bool} {sn:List Str} {sub:List Value} {ab:Bool} {col:Option Bool} {dd:Option Addr} {k0 k1 k2 k3 k5:Option Value} {newId:String}
  {kF q':Str} {N':Addr} {lI fH:List Value} {Uc:Bool} {oP:List Str} {aJ:List Value} {kZ:Bool} {Zo:Option Bool} {gQ:Option Addr} {om lK lH pj nB:Option Value} {CB:String}
  (hC:h.get? C=some (excClassObj nm q C N bs bm hdct sn sub ab col dd k0 k1 k2 k3 k5 newId)) (hD:h.get? Dc=some (excClassObj kF q' Dc N' lI fH Uc oP aJ kZ Zo gQ om lK lH pj nB CB))
  (he:h.get? e=some oe) (QA:oe.cls=.ref C) (C6:fH.contains (.type "BaseException")=true) (hq:Q ((Value.ref C::bm).contains (.ref Dc)) ⟨h,g,d,t,os⟩):wpAny M A (excMatches (.ref e) (.ref Dc)) Q E ⟨h,g,d,t,os⟩:=by
 have cT:(Value.ref Dc::fH).contains (.type "BaseException")=true:=by rw [List.contains_cons,C6,Bool.or_true]
 have f:=tc_notTuple
 unfold excMatches
 repeat (first|(with_reducible refine wpAny_loadPart_at hD ?_)|(with_reducible refine wpAny_isSubtype_exc hD ?_;rw [cT])|wp_step)
 rw [QA]
 refine wpAny_isSubtype_exc hC ?_
 cases hb:(Value.ref C::bm).contains (.ref Dc)<;>(rw [hb]at hq;wp_walk;exact hq)
end
def FXP (X:Cx) (pins:List (Addr×Obj)) (σ:St) (H:Hp) (G:Gs) (RX:Value->Gs->Prop) (e:Value) (s':Shared):Prop:=
 ∃ea cls s1 H1 H' G',e=.ref ea/\Inv X pins σ H1 s1/\s'.os=s1.os/\AllBare s'.gens/\Fly X.prog X.w X.stack H1 s1.heap H' s'.heap ea cls/\Ext H G H' G'/\GOk X.K H' G'/\RX cls G'
def WEX (X:Cx) (ρ:Rho) (G:Gs) (e:Expr) (Q:Dat->Gs->Prop) (RX:Value->Gs->Prop):Prop:=
 ∀(pins:List (Addr×Obj)) (s:Shared) (σ:St) (H:Hp),Inv X pins σ H s->Stt X H σ ρ G->wpAny (model X.prog X.w) X.A (eval e X.env) (EP X pins σ (Po X H G Q)) (FXP X pins σ H G RX) s
def Zk (X:Cx) (ρ:Rho) (G:Gs) (st:List Stmt) (D:DE) (RX:Value->Gs->Prop):Prop:=
 ∀(pins:List (Addr×Obj)) (s:Shared) (σ:St) (H:Hp),Inv X pins σ H s->Stt X H σ ρ G->wpAny (model X.prog X.w) X.A (execs st X.env) (SP X pins (En X H G D)) (FXP X pins σ H G RX) s
section
variable {X:Cx}{ρ:Rho}{G:Gs}{e:Expr}{es:List Expr}{ds:List Dat}{pos p:Pos}{S:SpX}{k:Nat}{ps:List Str}{x:Str}{Q:Dat->Gs->Prop}{RX:Value->Gs->Prop}{D:DE}{rest:List Stmt}
theorem M0 (hx:X.xe=fun _ _=>False) (F:DfX X.prog X.w X.K X.mg X.base x ps k S) (hr:Room k X.A) (ha:PXs X ρ G (e::es) ds) (hS:S ds G Q RX) (hg:Gl X x:=by rfl)
  (E8:(x==("__debug__":Str))=false:=by decide) (he:starEach (e::es) X.env=(false,eval e X.env)::starEach es X.env:=by rfl) (hpl:(backTo pos (starEach es X.env)).any (·.1)=false:=by rfl):WEX X ρ G (.Call (.Name x p) (e::es) [] pos) Q RX:=by
 obtain ⟨f,fd,F,hm,hk,hb⟩:=F.ex
 intro pins s σ H I S0
 refine wpAny_Call_Name_kw (Du I hg hm ?_ E8)
 have h1:=ha pos pins s σ H I S0
 rw [hx]at h1
 refine PySem.W.callWith_K (h₀:=X.base) I.ok.mod.kin hk (wpAny_mono h1 (fun us s1 ⟨vs,H1,I1,rv,d',G1,e1,o1,rep,q1,q2⟩=>⟨I1.kIn,?_⟩) fun _ _ z=>z.elim) he hpl
 subst q1
 subst q2
 have RO:JM X.K S vs H1 (Po X H G1 Q) (fun cls dx H'=>∃G',Ext H1 G1 H' G'/\GOk X.K H' G'/\RX cls G'):=⟨d',G1,Q,RX,o1,rep,hS,fun v H' d G' e' o' r' q'=>⟨d,G',e1.trans e',o',r',q'⟩,fun cls H' G' e' o' q'=>⟨G',e',o',q'⟩⟩
 have hl:us.length=ps.length:=by rw [<-rv.length];exact F.len _ _ _ _ RO
 refine wpAny_call (codeAny_mono (F.run X.A X.stack s1 H1 ⟨us,[]⟩ us vs _ _ hr I1.env0 (by have:=hb s1 us I1.kIn (by rw [List.append_nil];exact hl);rw [List.append_nil]at this;exact this) rv RO) fun r s' hq=>?_)
 cases r with
 |error er=>
  obtain ⟨ea,cls,H',rfl,h3,h4,Ke,G',e',o',q'⟩:=hq
  exact ⟨ea,cls,s1,H1,H',G',rfl,I1,h3,h4,Ke,e1.trans e',o',q'⟩
 |ok fl=>
  cases fl with
  |ret u=>exact I1.after hq
  |next=>exact False.elim hq
  |brk=>exact False.elim hq
  |cont=>exact False.elim hq
abbrev Cx.mk' (X:Cx) (ea:Addr):Cx:={ X with A:=X.A.mark (some (.ref ea)),calm:=false }
end
section
variable {X:Cx}{pins:List (Addr×Obj)}{σ:St}{H:Hp}{s:Shared}{ea:Addr}
theorem Ff (I:Inv X pins σ H s) (ea:Addr):Inv (Cx.mk' X ea) pins σ H s:=
 ⟨⟨I.ok.mod,I.ok.kind,I.ok.glob,I.ok.blt,I.ok.above,I.ok.inj,I.ok.has,I.ok.cab,fun h=>absurd h Bool.false_ne_true,I.ok.frames,I.ok.stk,I.ok.exf,I.ok.bs,I.ok.bsz,I.ok.noex,I.ok.exfs,I.ok.funs,I.ok.frf⟩,I.os,I.bare,I.base,I.loc,I.cell,I.free,I.freeC,I.pin,I.hok,I.len⟩
theorem Eb (hd:X.Ok) (I:Inv (Cx.mk' X ea) pins σ H s):Inv X pins σ H s:=
 ⟨hd,I.os,I.bare,I.base,I.loc,I.cell,I.free,I.freeC,I.pin,I.hok,I.len⟩
theorem UK {D:Ends} {f:Flow} {s':Shared} (hd:X.Ok) (h:SP (Cx.mk' X ea) pins D f s'):SP X pins D f s':=by
 cases f with
 |next=>obtain ⟨σ',H',I,q⟩:=h;exact ⟨σ',H',Eb hd I,q⟩
 |brk=>obtain ⟨σ',H',I,q⟩:=h;exact ⟨σ',H',Eb hd I,q⟩
 |cont=>obtain ⟨σ',H',I,q⟩:=h;exact ⟨σ',H',Eb hd I,q⟩
 |ret u=>obtain ⟨v,σ',H',I,r,q⟩:=h;exact ⟨v,σ',H',Eb hd I,r,q⟩
end
theorem YV {X Y Z:Cx} (hK:Y.K=Z.K) {pins:List (Addr×Obj)} {H:Hp} {G:Gs} {D:DE} {f:Flow} {s':Shared} (h:SP X pins (En Y H G D) f s'):SP X pins (En Z H G D) f s':=by
 have cv:∀{q:Rho->Gs->Prop} {σ':St} {H':Hp},lft Y H G q σ' H'->lft Z H G q σ' H':=fun ⟨ρ',G',e',S',q⟩=>⟨ρ',G',e',⟨fun i d h=>by obtain ⟨v,h1,h2⟩:=S'.env i d h;exact ⟨v,h1,by rw [<-hK];exact h2⟩,S'.len,by rw [<-hK];exact S'.own⟩,q⟩
 refine SP.le h (fun _ _ z=>cv z) (fun v H' ⟨d,G',e',o',r',q⟩=>⟨d,G',e',by rw [<-hK];exact o',by rw [<-hK];exact r',q⟩) (fun _ _ z=>cv z) fun _ _ z=>cv z
def Bi (K:PySem.W.Frag) (C Dc:Addr):Bool:=match K.lookup C with
 |some ⟨_,_,.cls cd,_⟩=>cd.mro.contains (.ref Dc)
 |_=>false
theorem OG {K:PySem.W.Frag} {C Dc N:Addr} {nm q:Str} {bs bm:List Value} {hdct:Bool} {sn:List Str} {sub:List Value} {ab:Bool} {col:Option Bool} {dd:Option Addr} {k0 k1 k2 k3 k5:Option Value} {newId:String}
  (h:K.lookup C=some (excClassObj nm q C N bs bm hdct sn sub ab col dd k0 k1 k2 k3 k5 newId)) (u:Bi K C Dc=true):(Value.ref C::bm).contains (.ref Dc)=true:=by
 unfold Bi at u
 rw [h]at u
 exact u
section
variable {X:Cx}{ρ:Rho}{G:Gs}{RX:Value->Gs->Prop}{D:DE}{rest body GQ:List Stmt}{b₀:Stmt}{pos np Gx:Pos}{cx:Str}
theorem V9 {pins:List (Addr×Obj)} {σ:St} {H1 H':Hp} {s1 s':Shared} {ea C Dc:Addr} {IS Hq:List Value} {newId CB DF W2:String} {name:Option Str} {Q:Flow->Shared->Prop} {E:Value->Shared->Prop}
  (D4:X.stack=X.env::X.outer) (IF:X.env.frame=some X.env.locals) (I1:Inv X pins σ H1 s1) (Ju:s'.os=s1.os) (EM:AllBare s'.gens) (Ke:Fly X.prog X.w X.stack H1 s1.heap H' s'.heap ea (.ref C))
  (hC:PySem.W.excIn X.K C IS newId=true) (hD:PySem.W.excIn X.K Dc Hq CB=true) (FD:ExcBaseFacts W2 CB DF Hq) (hu:Bi X.K C Dc=true) (hm:X.mg cx=some (.ref Dc)) (hg:Gl X cx) (E8:(cx==("__debug__":Str))=false)
  (k:∀h5,Inv (Cx.mk' X ea) pins σ H' { s' with heap:=h5 }->(∀(A':Around) (E':Value->Shared->Prop) (Q':Unit->Shared->Prop),(∀h6,Inv (Cx.mk' X ea) pins σ H' { s' with heap:=h6 }->(∃oe vs,h6.get? ea=some oe/\oe.cls=.ref C/\oe.data=.fields vs)->H' ea=none->Q' () { s' with heap:=h6 })->wpAny (model X.prog X.w) A' (setFlight (.ref ea) none) Q' E' { s' with heap:=h5 }) →
   codeAny (model X.prog X.w) (X.A.mark (some (.ref ea))) (.handlers (.ref ea) [.ExceptHandler none name (b₀::GQ) Gx] X.env) (fun r s₂=>match r with
     |.ok f=>(match name with
      |none=>Q f s₂
      |some n=>wpAny (model X.prog X.w) X.A (do bindName X.env n .none;unbindBehindTheSuite X.env n Gx) (fun _ s₃=>Q f s₃) E s₂)
     |.error y=>cameBackBy (model X.prog X.w) X.A X.env E y s₂) { s' with heap:=h5 }) :
  wpAny (model X.prog X.w) X.A (noteFrame (.ref ea) X.env) (fun _ s₂=>wpAny (model X.prog X.w) X.A (setFlight (.ref ea) none) (fun _ s₃=>wpAny (model X.prog X.w) X.A (handleBy (.ref ea) X.env [.ExceptHandler (some (.Name cx np)) name (b₀::GQ) Gx]) Q E s₃) E s₂) E s':=by
 obtain ⟨a0,B,fl,hB,c1,c2⟩:=Ke.ex
 have KL:=I1.ok.frames
 rw [D4]at fl KL
 refine wpAny_looks_onW KL IF fl fun h4 held jG=>wpAny_landsW held fun h5 ZK kl=>?_
 have Ni:Fly X.prog X.w X.stack H1 s1.heap H' h5 ea (.ref C):=by
  refine Fly.step Ke.un Ke.free hB c1 c2 (outer0:=X.stack) (by rw [D4];exact fl.2.2.1) (fun _ z=>z) (by rw [D4];exact ZK) (jG.trans kl)
 have I5:Inv X pins σ H' { s' with heap:=h5 }:=I1.call' (s':={ s' with heap:=h5 }) Ju Ni.un Ni.hok EM (by simp)
 obtain ⟨bm,N,nm,qn,bs,hdct,sn,sub,ab,col,dd,k0,k1,k2,k3,k5,mN,oC,oN,oi,tl,lC⟩:=EW I1.mod.kin hC
 obtain ⟨fH,N',kF,su,lI,Uc,oP,aJ,kZ,Zo,gQ,om,lK,lH,pj,nB,xG,oD,_,_,jZ,lD⟩:=EW I1.mod.kin hD
 obtain ⟨oe,U5,cP⟩:=ZK.there
 refine wpAny_handleBy_cons (codeAny_handlers_test (Du (X:=Cx.mk' X ea) (Ff I5 ea) hg hm ?_ E8)) (by intro z;cases z)
 have hq:=OG lC hu
 refine PH (I5.bk _ _ oC) (I5.bk _ _ oD) U5 cP (jZ.hasType FD.hasBase) ?_
 rw [hq]
 refine k h5 (Ff I5 ea) fun A' E' Q' hQ=>lands_againW (s:={ s' with heap:=h5 }) ZK fun h6 gj nN=>?_
 have Qf:Fly X.prog X.w X.stack H1 s1.heap H' h6 ea (.ref C):=Fly.step Ni.un Ni.free hB c1 c2 (outer0:=X.stack) (by rw [D4];exact ZK.2.2.1) (fun _ z=>z) (by rw [D4];exact gj) nN
 have I6:Inv X pins σ H' { s' with heap:=h6 }:=I1.call' (s':={ s' with heap:=h6 }) Ju Qf.un Qf.hok EM (by simp)
 obtain ⟨uP,yS,z1,z2,z3,_⟩:=gj.first
 exact hQ h6 (Ff I6 ea) ⟨uP,yS,z1,z2,z3⟩ Qf.free
theorem Pg {Dc:Addr} {Hq:List Value} {CB DF W2:String} (D4:X.stack=X.env::X.outer) (IF:X.env.frame=some X.env.locals) (hb:Zk X ρ G body { D with nx:=fun ρ' G'=>WSs X ρ' G' rest D } RX)
  (hD:PySem.W.excIn X.K Dc Hq CB=true) (FD:ExcBaseFacts W2 CB DF Hq) (hm:X.mg cx=some (.ref Dc))
  (hs:∀cls G',RX cls G'->∃C IS newId,cls=.ref C/\PySem.W.excIn X.K C IS newId=true/\Bi X.K C Dc=true/\∀ea,WSs (Cx.mk' X ea).nox ρ G' (b₀::GQ) { D with nx:=fun ρ' G'=>WSs X ρ' G' rest D })
  (hg:Gl X cx:=by rfl) (E8:(cx==("__debug__":Str))=false:=by decide):WSs X ρ G (.Try body [.ExceptHandler (some (.Name cx np)) none (b₀::GQ) Gx] [] [] pos::rest) D:=Bt fun pins s σ H I S=>by
 refine wpAny_Try_except (wpAny_mono (hb pins s σ H I S) (fun f s1 z=>?_) fun e s' z=>?_)
 ·cases f with
  |next=>exact wpAny_execs_nil z
  |ret v=>exact z
  |brk=>exact z
  |cont=>exact z
 ·obtain ⟨ea,cls,s1,H1,H',G',rfl,I1,Ju,EM,Ke,ex,go,rx⟩:=z
  obtain ⟨C,IS,newId,rfl,hC,hu,hw⟩:=hs cls G' rx
  refine V9 D4 IF I1 Ju EM Ke hC hD FD hu hm hg E8 fun h5 I5 land=>?_
  refine codeAny_handlers_suite (land _ _ _ fun h6 I6 _ _=>?_)
  have S5:=S.ext ex go
  have S6:Stt (Cx.mk' X ea).nox H' σ ρ G':=⟨S5.env,S5.len,S5.own⟩
  refine wpAny_mono (hw ea pins { s' with heap:=h6 } σ H' (I6.wish _) S6) (fun f s2 z=>?_) fun _ _ z=>z.elim
  have z1:SP (Cx.mk' X ea) pins (En X H' G' { D with nx:=fun ρ' G'=>WSs X ρ' G' rest D }) f s2:=YV (X:=Cx.mk' X ea) (Y:=(Cx.mk' X ea).nox) (Z:=X) rfl (SP.unwish (X:=Cx.mk' X ea) (E:=fun _ _=>False) z)
  exact SP.trans ex (UK I.ok z1)
end
abbrev Cx.sx (X:Cx) (ea:Addr) (oe:Obj):Cx:={ X with A:=X.A.mark (some (.ref ea)),calm:=false,pn:=(ea,oe)::X.pn,xe:=fun _ _=>False }
section
variable {X:Cx}{pins:List (Addr×Obj)}{σ:St}{H:Hp}{s:Shared}{ea:Addr}{oe:Obj}{vs:Array Value}
theorem Ub (I:Inv (Cx.mk' X ea) pins σ H s) (he:s.heap.get? ea=some oe) (hd:oe.data=.fields vs) (hf:H ea=none):Inv (Cx.sx X ea oe) pins σ H s:=by
 refine ⟨⟨I.ok.mod,I.ok.kind,I.ok.glob,I.ok.blt,I.ok.above,I.ok.inj,I.ok.has,I.ok.cab,fun h=>absurd h Bool.false_ne_true,I.ok.frames,I.ok.stk,I.ok.exf,I.ok.bs,I.ok.bsz,I.ok.noex,I.ok.exfs,I.ok.funs,I.ok.frf⟩,I.os,I.bare,I.base,I.loc,I.cell,I.free,I.freeC,fun p hp=>?_,I.hok,I.len⟩
 rcases List.mem_cons.mp hp with rfl|hp
 ·refine ⟨he,hf,fun z=>?_,fun z=>?_,fun v z=>?_⟩
  ·obtain ⟨m,⟨o,es,ep,ho,UW,_⟩,_⟩:=I.loc
   have z':ea=X.env.locals:=z
   rw [z',show s.heap.get? X.env.locals=some o from ho]at he
   cases he
   rw [UW]at hd
   cases hd
  ·obtain ⟨_,o,ho,hn⟩:=I.funs.mem z
   rw [show s.heap.get? ea=some o from ho]at he
   cases he
   exact hn _ hd
  ·rw [hd]at z;cases z
 ·exact I.pin p hp
theorem Uy (ok:X.Ok) (I:Inv (Cx.sx X ea oe) pins σ H s) {h':Heap} {m':Str->Option Value} {tk:Nat} (hn:h'.Ns X.env.locals m') (sb:Heap.SameBut X.env.locals s.heap h'):Inv X pins (List.replicate X.N.length none) H { s with heap:=h',toks:=tk }:=by
 have kp:∀b o,b≠X.env.locals->s.heap.get? b=some o->h'.get? b=some o:=fun b o hb e=>sb.extBut b o hb e
 have Wt:∀b o,X.s₀.heap.get? b=some o->b≠X.env.locals:=fun b o e=>Nat.ne_of_lt (Nat.lt_of_lt_of_le (Heap.lt_size e) ok.above)
 have hL:H X.env.locals=none:=I.free
 refine ⟨ok,I.os,I.bare,⟨fun b o e n hb hx=>kp b o (Wt b o e) (I.base.keep b o e n hb hx),fun b o e n hb hx=>?_,fun b o e n hx=>I.base.free b o e n hx,fun b o e hx=>?_,I.base.tups,I.base.frzs,I.base.tbls⟩,⟨m',hn,fun i x v h1 h2=>?_⟩,fun x c e=>?_,hL,I.freeC,fun p hp=>?_,fun b u q=>?_,by simp⟩
 ·obtain ⟨sl,e1⟩:=I.base.slot b o e n hb hx
  exact ⟨sl,kp b _ (Wt b o e) e1⟩
 ·obtain ⟨o',e1⟩:=I.base.there b o e hx
  exact ⟨o',kp b o' (Wt b o e) e1⟩
 ·rw [List.getElem?_replicate]at h2
  split at h2<;>cases h2
 ·obtain ⟨v,o,ho,hd⟩:=I.cell x c e
  exact ⟨v,o,kp c o (I.cne x c e) ho,hd⟩
 ·have z:=I.pin p (List.mem_cons_of_mem _ hp)
  exact ⟨kp _ _ z.2.2.1 z.1,z.2⟩
 ·refine (I.hok b u q).stay (fun c o hc r=>kp c o ?_ r) (fun _ r=>r) fun _ _ r=>r
  rcases hc with rfl|hc
  ·exact AK q hL
  ·exact AK hc hL
end
section
variable {X:Cx}{ρ:Rho}{G:Gs}{RX:Value->Gs->Prop}{D:DE}{rest body GQ:List Stmt}{b₀:Stmt}{pos np Gx:Pos}{cx n:Str}
theorem Vi (i:Nat) {Dc:Addr} {Hq:List Value} {CB DF W2:String} (D4:X.stack=X.env::X.outer) (IF:X.env.frame=some X.env.locals) (hN:X.N.Nodup) (hb:Zk X ρ G body { D with nx:=fun ρ' G'=>WSs X ρ' G' rest D } RX)
  (hD:PySem.W.excIn X.K Dc Hq CB=true) (FD:ExcBaseFacts W2 CB DF Hq) (hm:X.mg cx=some (.ref Dc))
  (hs:∀cls G',RX cls G'->∃C IS newId,cls=.ref C/\PySem.W.excIn X.K C IS newId=true/\Bi X.K C Dc=true/\∀ea oe,oe.cls=.ref C->WSs (Cx.sx X ea oe) (ρ.set i (some (.fn ea))) G' (b₀::GQ) { nx:=fun _ _=>False,rt:=D.rt })
  (hn:X.N[i]?=some n:=by rfl) (hl:X.env.kindOf n=some .local:=by rfl) (hg:Gl X cx:=by rfl) (E8:(cx==("__debug__":Str))=false:=by decide):WSs X ρ G (.Try body [.ExceptHandler (some (.Name cx np)) (some n) (b₀::GQ) Gx] [] [] pos::rest) D:=Bt fun pins s σ H I S=>by
 refine wpAny_Try_except (wpAny_mono (hb pins s σ H I S) (fun f s1 z=>?_) fun e s' z=>?_)
 ·cases f with
  |next=>exact wpAny_execs_nil z
  |ret v=>exact z
  |brk=>exact z
  |cont=>exact z
 ·obtain ⟨ea,cls,s1,H1,H',G',rfl,I1,Ju,EM,Ke,ex,go,rx⟩:=z
  obtain ⟨C,IS,newId,rfl,hC,hu,hw⟩:=hs cls G' rx
  refine V9 D4 IF I1 Ju EM Ke hC hD FD hu hm hg E8 fun h5 I5 land=>?_
  refine codeAny_handlers_suite_as (land _ _ _ fun h6 I6 ⟨oe,vs,z1,z2,z3⟩ JL=>?_)
  have I7:=Ub I6 z1 z3 JL
  refine HQ (X:=Cx.sx X ea oe) I7 hN hn (.inl hl) (v:=.ref ea) rfl (fun s7 I8=>?_) (.inr hl)
  have S5:=S.ext ex go
  have S6:Stt (Cx.sx X ea oe) H' σ ρ G':=⟨S5.env,S5.len,S5.own⟩
  have S8:Stt (Cx.sx X ea oe) H' (σ.set i (some (.ref ea))) (ρ.set i (some (.fn ea))) G':=S6.set (show Rep X.K (hid H' G') (.fn ea) (.ref ea) by rw [Rep])
  refine wpAny_mono (hw ea oe z2 pins s7 _ H' I8 S8) (fun f s8 z=>?_) fun _ _ z=>z.elim
  cases f with
  |next=>obtain ⟨_,_,_,_,_,_,_,q⟩:=z;exact q.elim
  |brk=>obtain ⟨_,_,_,_,_,_,_,q⟩:=z;exact q.elim
  |cont=>obtain ⟨_,_,_,_,_,_,_,q⟩:=z;exact q.elim
  |ret u=>
   obtain ⟨v,σ9,H9,I9,rv,d,G9,e9,o9,r9,q9⟩:=z
   obtain ⟨m,Nv,_⟩:=I9.loc
   refine wpAny_nameGoes hl Nv (by rw [I.ok.kind];rfl) fun h' m' az sb=>?_
   exact ⟨v,_,H9,Uy I.ok I9 az sb,rv,d,G9,ex.trans e9,o9,r9,q9⟩
end
theorem TV {e C N:Addr} {T:String} {nm q:Str} {bs bm:List Value} {hdct:Bool} {sn:List Str} {sub:List Value} {ab:Bool} {col:Option Bool} {dd:Option Addr} {k0 k1 k2 k3 k5:Option Value} {newId:String} (iF:typeOf (.type T)=pure (.type "type")) (hT:bm.contains (.type T)=true) :
  Meets (Builtin.«isinstance» ⟨[.ref e,.type T],[]⟩) (fun _ R s=>(∃oe,s.heap.get? e=some oe/\oe.cls=.ref C)/\s.heap.get? C=some (excClassObj nm q C N bs bm hdct sn sub ab col dd k0 k1 k2 k3 k5 newId)/\R (.ok (.ret (.bool true))) s):=fun prog w A R s hs=>by
 obtain ⟨⟨oe,he,hc⟩,hC,hR⟩:=hs
 have cT:(Value.ref C::bm).contains (.type T)=true:=by rw [List.contains_cons,hT,Bool.or_true]
 refine isinstance_outer ?_ (by intro z;cases z)
 obtain ⟨hp,g,d,t,os⟩:=s
 repeat (any_goals (first|assumption|(with_reducible refine wpAny_loadPart_at he ?_;rw [hc])|(with_reducible refine wpAny_isSubtype_exc hC ?_;rw [cT])|wp_step))
theorem Ld:typeOf (.type "ValueError")=pure (.type "type"):=by rfl
section
variable {X:Cx}{ρ:Rho}{G:Gs}{ea:Addr}{oe:Obj}{a:Expr}{pos pp p2:Pos}{i:Nat}
theorem Td {C:Addr} {IS:List Value} {newId:String} {T:String} (hc:oe.cls=.ref C) (hm:(ea,oe)∈X.pn) (hC:PySem.W.excIn X.K C IS newId=true) (hT:IS.contains (.type T)=true) (iF:typeOf (.type T)=pure (.type "type")):C2 X (.builtin "isinstance") (fun xs H Q=>xs=[.ref ea,.ty T]/\Q (.bl true) H):=by
 intro pins s σ H xs us Q I r h
 obtain ⟨rfl,q⟩:=h
 obtain ⟨u,w',rfl,ru,cA⟩:=Mh r
 cases ru
 cases (show w'=Value.type T from cA)
 have z:=I.pin (ea,oe) (List.mem_append_left _ hm)
 obtain ⟨bm,N,nm,qn,bs,hdct,sn,sub,ab,col,dd,k0,k1,k2,k3,k5,mN,oC,oN,oi,tl,lC⟩:=EW I.mod.kin hC
 exact call_isinstance (TV (C:=C) (N:=N) (nm:=nm) (q:=qn) (bs:=bs) (bm:=bm) (hdct:=hdct) (sn:=sn) (sub:=sub) (ab:=ab) (col:=col) (dd:=dd) (k0:=k0) (k1:=k1) (k2:=k2) (k3:=k3) (k5:=k5) (newId:=newId) iF (tl.hasType hT)) ⟨⟨oe,z.1,hc⟩,I.bk _ _ oC,⟨.bl true,H,I,rfl,q⟩⟩
theorem Wx {C:Addr} {IS:List Value} {newId:String} (hc:oe.cls=.ref C) (hm:(ea,oe)∈X.pn) (hC:PySem.W.excIn X.K C IS newId=true) (hT:IS.contains (.type "ValueError")=true) (jK:X.mg "isinstance"=none) (vM:X.mg "ValueError"=none) (ha:PX X ρ G a (.fn ea)) (hg:Gl X "isinstance":=by rfl) (oB:Gl X "ValueError":=by rfl)
  (he:starEach [a,.Name "ValueError" p2] X.env=(false,eval a X.env)::starEach [.Name "ValueError" p2] X.env:=by rfl):PX X ρ G (.Call (.Name "isinstance" pp) [a,.Name "ValueError" p2] [] pos) (.bl true):=
 Ba (HL (Td hc hm hC hT Ld) hg jK (by decide +kernel) (B3 Ak (B3 (SE (v:=.ty "ValueError") oB vM (by decide +kernel) rfl (by decide) (by decide)) D3) he) (by decide) (by decide) he rfl) fun σ H S=>⟨ρ,G,_,ha,S,fun x H1 ⟨_,_,e1,o1,r1,q1,Bp⟩=>by
  subst q1;subst Bp
  rw [Rep]at r1
  subst r1
  exact ⟨rfl,Po.trans e1 (BL o1 rfl)⟩⟩
end
section
variable {X:Cx}{ρ:Rho}{G:Gs}{e:Expr}{n:Int}{a b:Str}{k1 k2:Nat}{p1 p2 p3 pos:Pos}
theorem VC {pins:List (Addr×Obj)} {s:Shared} {σ:St} {H:Hp} {Q:Value->Shared->Prop} (hx:PX X ρ G e (.int n)) (hn:n.natAbs.log2<1920) (I:Inv X pins σ H s) (S:Stt X H σ ρ G) (h:∀s1 H1 t,Inv X pins σ H1 s1->Ext H G H1 G->GOk X.K H1 G->Q (.str (toString n) t) s1) :
  wpAny (model X.prog X.w) X.A (eval (.FormattedValue e (-1) none p2) X.env) Q X.xe s:=by
 refine wpAny_FormattedValue_plain (thn (hx pins s σ H I S) fun u s1 ⟨x,H1,I1,r1,d,G1,e1,o1,rx,q1,q2⟩=>?_)
 subst q1;subst q2
 rw [Rep]at rx
 subst rx
 obtain ⟨t,rfl⟩:=r1
 exact wpAny_formatField_int hn (h _ H1 _ (I1.tok _) e1 o1)
theorem QP {c:Str} {pins:List (Addr×Obj)} {s:Shared} {σ:St} {H:Hp} {Q:Value->Shared->Prop} (I:Inv X pins σ H s) (S:Stt X H σ ρ G) (h:∀s1 H1 t,Inv X pins σ H1 s1->Ext H G H1 G->GOk X.K H1 G->Q (.str c t) s1) :
  wpAny (model X.prog X.w) X.A (eval (.Constant (.str c) k1 p1) X.env) Q X.xe s:=
 thn (AU (X:=X) (ρ:=ρ) (G:=G) pins s σ H I S) fun u s1 ⟨x,H1,I1,r1,d,G1,e1,o1,rx,q1,q2⟩=>by
  subst q1;subst q2
  rw [Rep]at rx
  subst rx
  obtain ⟨t,rfl⟩:=r1
  exact h s1 H1 t I1 e1 o1
theorem cH (hx:PX X ρ G e (.int n)) (hn:n.natAbs.log2<1920) (h1:(Str.empty++a).length≤sizeLine) (h2:(Str.empty++a++Str.ofString (toString n)).length≤sizeLine) (h3:(Str.empty++a++Str.ofString (toString n)++b).length≤sizeLine)
  (he:evalEach [.Constant (.str a) k1 p1,.FormattedValue e (-1) none p2,.Constant (.str b) k2 p3] X.env=[eval (.Constant (.str a) k1 p1) X.env,eval (.FormattedValue e (-1) none p2) X.env,eval (.Constant (.str b) k2 p3) X.env]:=by rfl) :
  PX X ρ G (.JoinedStr [.Constant (.str a) k1 p1,.FormattedValue e (-1) none p2,.Constant (.str b) k2 p3] pos) (.str (Str.empty++a++Str.ofString (toString n)++b)):=by
 intro pins s σ H I S
 refine wpAny_JoinedStr ?_
 rw [he]
 refine QP I S fun s1 H1 t1 I1 e1 o1=>⟨a,t1,rfl,h1,?_⟩
 refine VC hx hn I1 (S.ext e1 o1) fun s2 H2 t2 I2 e2 o2=>⟨_,t2,rfl,h2,?_⟩
 refine QP I2 ((S.ext e1 o1).ext e2 o2) fun s3 H3 t3 I3 e3 o3=>⟨b,t3,rfl,h3,h3,?_⟩
 exact ⟨.str _,H3,I3.tok _,⟨_,rfl⟩,_,G,e1.trans (e2.trans e3),o3,by rw [Rep],rfl,rfl⟩
theorem bG (hx:PX X ρ G e (.int n)) (hn:n.natAbs.log2<1920) (h1:(Str.empty++a).length≤sizeLine) (h2:(Str.empty++a++Str.ofString (toString n)).length≤sizeLine)
  (he:evalEach [.Constant (.str a) k1 p1,.FormattedValue e (-1) none p2] X.env=[eval (.Constant (.str a) k1 p1) X.env,eval (.FormattedValue e (-1) none p2) X.env]:=by rfl) :
  PX X ρ G (.JoinedStr [.Constant (.str a) k1 p1,.FormattedValue e (-1) none p2] pos) (.str (Str.empty++a++Str.ofString (toString n))):=by
 intro pins s σ H I S
 refine wpAny_JoinedStr ?_
 rw [he]
 refine QP I S fun s1 H1 t1 I1 e1 o1=>⟨a,t1,rfl,h1,?_⟩
 refine VC hx hn I1 (S.ext e1 o1) fun s2 H2 t2 I2 e2 o2=>⟨_,t2,rfl,h2,h2,?_⟩
 exact ⟨.str _,H2,I2.tok _,⟨_,rfl⟩,_,G,e1.trans e2,o2,by rw [Rep],rfl,rfl⟩
end
instance (p q:Sq):Decidable (A1 p q):=by unfold A1;exact inferInstance
section
variable {X:Cx}{ρ:Rho}{G:Gs}{e a b c:Expr}{d d1 d2:Dat}{l:List Dat}{pos:Pos}{x y:Sq}
theorem Lx:∀(bs:List Bool),((List.range bs.length).all fun i=>bs.getD i true)=bs.all id
 |[]=>rfl
 |b::bs=>by
  rw [List.length_cons,List.range_succ_eq_map,List.all_cons,List.all_map,List.all_cons,<-Lx bs]
  rfl
theorem T5 (hc:X.calm=true):C2 X (.builtin "all") (fun xs H Q=>∃(p:Addr) (bs:List Bool),xs=[.ref p]/\SqL X.K H p (bs.map V.bl)/\Q (.bl (bs.all id)) H):=by
 intro pins s σ H xs us Q I r h
 obtain ⟨p,bs,rfl,hq,q⟩:=h
 obtain ⟨u,rfl,rx⟩:=HU r
 cases rx
 obtain ⟨its,rv,pl,hz⟩:=I.list hq
 have hl:=pl.isList
 have A4:=Heap.lt_size (hl.choose_spec.1)
 have ne:p≠s.heap.objs.size:=Nat.ne_of_lt A4
 refine call_all_walk (wpAny_pyIter_list hl ?_)
 refine ⟨_,_,_,_,_,_,fun i=>bs.getD i true,rfl,Walks.list (A:=X.A.in1) (I.ok.hd hc) _ p ne its.toArray,⟨⟨_,Heap.get?_push_size _ rfl,rfl,rfl⟩,hl.push _⟩,?_,fun h' tk hk=>?_⟩
 ·intro i v s' Q' E' hP hQ
  have h1:its[i]?=some v:=by simpa using hP
  have hi:i<its.length:=(List.getElem?_eq_some_iff.mp h1).1
  have SW:=rv.length
  rw [List.length_map]at SW
  obtain ⟨x,hx⟩:∃x,bs[i]?=some x:=⟨bs[i]'(by lia),List.getElem?_eq_getElem (by lia)⟩
  have h2:(bs.map V.bl)[i]?=some (V.bl x):=by rw [List.getElem?_map,hx];rfl
  obtain ⟨v',g1,g2⟩:=rv.get h2
  rw [h1]at g1
  cases g1
  cases g2
  have hQ:Q' (bs.getD i true) s':=hQ
  rw [List.getD_eq_getElem?_getD,hx]at hQ
  exact wpAny_truthy_bool hQ
 ·have hn:its.toArray.size=bs.length:=by have:=rv.length;rw [List.length_map]at this;rw [List.size_toArray,<-this]
  rw [hn,Lx]
  refine ⟨.bl _,H,I.kept (fun b o e=>hk b o (fun hm=>?_) (Heap.get?_push_of_some _ e)),rfl,q⟩
  have h1:=Heap.lt_size e
  rw [List.mem_singleton.mp hm]at h1
  exact Nat.lt_irrefl _ h1
theorem R1 {K:PySem.W.Frag} {H:Hp}:∀{bs:List Bool} {vs:List V},RepL K H (bs.map .bl) vs->vs=bs.map V.bl
 |[],vs,r=>by
  have:=r.length
  exact List.eq_nil_of_length_eq_zero (by simpa using this)
 |b::bs,vs,r=>by
  rw [List.map_cons,RepL]at r
  obtain ⟨v,r',rfl,r1,r2⟩:=r
  rw [Rep]at r1
  rw [r1,R1 r2]
  rfl
theorem Ve {bs:List Bool} {pp:Pos} (hc:X.calm=true) (hm:X.mg "all"=none) (ha:PX X ρ G a (.lst (bs.map .bl))) (hg:Gl X "all":=by rfl) (he:starEach [a] X.env=(false,eval a X.env)::starEach [] X.env:=by rfl):PX X ρ G (.Call (.Name "all" pp) [a] [] pos) (.bl (bs.all id)):=
 Em (T5 hc) hg hm (by decide +kernel) ha (fun H x Q o r k=>by
  rw [Rep]at r
  obtain ⟨q,vs,e,h1,r1⟩:=r
  exact ⟨q,bs,by rw [e],by rw [<-R1 r1];exact SqL.of (AJ _ _ h1),k _ _ (BL o rfl)⟩) (he:=he)
end
def M9:Dat->Bool
 |.tup l=>l.all fun d=>(tyS d).isSome
 |d=>(tyS d).isSome
def JK:Dat->Bool
 |.tup [_,_]=>true
 |_=>false
def Gr:Dat->Bool
 |.tup [.int _,.int _]=>true
 |_=>false
def HZ:SpD:=fun ds G R=>∃(d:Dat) (t:String),ds=[d]/\tyS d=some t/\R (.bl (t=="int")) G
def Jq:SpD:=fun ds G R=>∃(d:Dat) (t:String),ds=[d]/\tyS d=some t/\R (.bl (JK d)) G
def JZ:SpD:=fun ds G R=>∃d:Dat,ds=[d]/\M9 d=true/\R (.bl (Gr d)) G
theorem U8 {d:Dat} (h:M9 d=true):∃t,tyS d=some t:=by
 cases d<;>first|exact ⟨_,rfl⟩|cases h
theorem V7 {d:Dat} (h:Gr d=true):∃q,d=sq q:=by
 unfold Gr at h
 split at h
 ·rename_i a b;exact ⟨(a,b),rfl⟩
 ·cases h
theorem YJ (t:String):(isS t "int"&&!isS t "bool")=(t=="int"):=by
 unfold isS
 by_cases h:t = "int"
 ·subst h;rfl
 ·by_cases h2:t = "bool"
  ·subst h2;rfl
  ·have e1:(t=="int")=false:=by simpa using h
   have e2:(t=="bool")=false:=by simpa using h2
   rw [e1,e2];rfl
theorem M1 (t:String):isS t "tuple"=(t=="tuple"):=by
 unfold isS
 rw [show (("tuple":String)=="int")=false from rfl,Bool.and_false,Bool.or_false]
theorem Sw {X:Cx} {ρ:Rho} {G:Gs} {e:Expr} {Q:Dat->Gs->Prop} (h:WEX X ρ G e Q fun _ _=>False):WE X ρ G e Q:=fun pins s σ H I S=>
 wpAny_mono (h pins s σ H I S) (fun _ _ z=>z) fun _ _ ⟨_,_,_,_,_,_,_,_,_,_,_,_,_,z⟩=>z.elim
structure Zt (h:Heap) (z TI TO i1 i2 l1 l2:Addr) (f0:Value) (k:Nat) (xs ys:Array Value):Prop where
 hz:IsZip h z TI TO f0
 hI:IsPair h TI (.ref i1) (.ref i2)
 hO:∃a b,IsPair h TO a b
 h1:h.IsTupleIter i1 l1 k
 h2:h.IsTupleIter i2 l2 k
 t1:h.IsTuple l1 xs
 t2:h.IsTuple l2 ys
section
variable {prog:Program}{w:World}{A:Around}{E:Value->Shared->Prop}{s:Shared}{z TI TO i1 i2 l1 l2:Addr}{k:Nat}{xs ys:Array Value}{x y:Value}
theorem KH {Q:Fin->Shared->Prop} (D:ZipApart z TI TO i1 i2 l1 l2) (Z:Zt s.heap z TI TO i1 i2 l1 l2 .none k xs ys)
  (go:∀h1,IsZip h1 z TI TO .ellipsis->Heap.SameBut z s.heap h1->(match xs[k]? with
   |none=>∀h2 e,Heap.ExtBut i1 h1 h2->(∃o,h2.get? e=some o/\o.cls=.type "StopIteration")->wpAny (model prog w) A (setField (.ref z) 0 .none) (fun _ s'=>E (.ref e) s') E { s with heap:=h2 }
   |some x=>∀h2 h3 b,h2.IsTupleIter i1 l1 (k+1)->Heap.SameBut i1 h1 h2->IsPair h3 TO x b->Heap.SameBut TO h2 h3->(match ys[k]? with
    |none=>∀h4 e,Heap.ExtBut i2 h3 h4->(∃o,h4.get? e=some o/\o.cls=.type "StopIteration")->wpAny (model prog w) A (setField (.ref z) 0 .none) (fun _ s'=>E (.ref e) s') E { s with heap:=h4 }
    |some y=>∀h4 h5,h4.IsTupleIter i2 l2 (k+1)->Heap.SameBut i2 h3 h4->IsPair h5 TO x y->Heap.SameBut TO h4 h5 →
      wpAny (model prog w) A (do let result <-newTuple [x,y];Builtin.SmallTypes.ownedTupleHandOut (.ref z) result;ret result) Q E { s with heap:=h5 })))
  (hh:A.handled=none):wpAny (model prog w) A (Builtin.«zip.__next__» ⟨[.ref z],[]⟩) Q E s:=by
 obtain ⟨a,b,hO⟩:=Z.hO
 have hz:=Z.hz
 show wpAny _ _ (field (.ref z) 2 >>= _) _ _ _
 refine wpAny_bind (wpAny_field hz rfl (x:=.bool false) rfl ?_)
 show wpAny _ _ (field (.ref z) 3 >>= _) _ _ _
 refine wpAny_bind (wpAny_field hz rfl (x:=.ref TI) rfl (wpAny_bind (wpAny_seqItems Z.hI rfl ?_)))
 show wpAny _ _ (Builtin.SmallTypes.ownedTupleIsFree (.ref z) >>= _) _ _ _
 refine wpAny_bind ?_
 unfold Builtin.SmallTypes.ownedTupleIsFree
 refine wpAny_bind (wpAny_field hz rfl (x:=.none) rfl (wpAny_pure ?_))
 simp only [if_true]
 refine wpAny_bind (wpAny_rule (wpAny_bind (wpAny_field hz rfl (x:=.ref TO) rfl (wpAny_bind (wpAny_setField_rec hz (by simp) fun h1 Wc s1=>wpAny_bind ?_)))))
 replace Wc:IsZip h1 z TI TO .ellipsis:=Wc
 have G:=go h1 Wc s1
 have a1:h1.IsTupleIter i1 l1 k:=Z.h1.at fun o e=>s1.extBut _ o D.i1z e
 have a2:h1.IsTuple l1 xs:=Z.t1.extBut s1.extBut D.l1z
 have a3:IsPair h1 TO a b:=s1.extBut _ _ D.TOz hO
 simp only [List.zipIdx_cons,List.zipIdx_nil,List.forIn_cons,List.forIn_nil]
 refine wpAny_bind (wpAny_bind (wpAny_onRaise ?_))
 show wpAny _ _ (Builtin.SmallTypes.nextOf (.ref i1) >>= _) _ _ _
 cases hx:xs[k]? with
 |none=>
  rw [hx]at G
  exact wpAny_bind (GI hh a1 a2 hx fun h2 e s2 he=>G h2 e s2 he)
 |some x=>
  rw [hx]at G
  refine wpAny_bind (Gi a1 a2 hx fun h2 b1 s2=>wpAny_pure ?_)
  have b3:IsPair h2 TO a b:=s2.extBut _ _ D.TOi1 a3
  refine wpAny_bind (wpAny_seqItems b3 rfl (wpAny_bind (wpAny_updateSeq_pair b3 fun h3 c3 s3=>wpAny_bind (wpAny_letGo (wpAny_pure ?_)))))
  replace c3:IsPair h3 TO x b:=c3
  have G2:=G h2 h3 b b1 s2 c3 s3
  refine wpAny_bind (wpAny_bind (wpAny_onRaise ?_))
  show wpAny _ _ (Builtin.SmallTypes.nextOf (.ref i2) >>= _) _ _ _
  have e1:h3.IsTupleIter i2 l2 k:=Z.h2.at fun o e=>s3.extBut _ o D.TOi2.symm (s2.extBut _ o D.i12.symm (s1.extBut _ o D.i2z e))
  have e2:h3.IsTuple l2 ys:=((Z.t2.extBut s1.extBut D.l2z).extBut s2.extBut D.l2i1).extBut s3.extBut D.l2TO
  cases hy:ys[k]? with
  |none=>
   rw [hy]at G2
   exact wpAny_bind (GI hh e1 e2 hy fun h4 e s4 he=>G2 h4 e s4 he)
  |some y=>
   rw [hy]at G2
   refine wpAny_bind (Gi e1 e2 hy fun h4 d1 s4=>wpAny_pure ?_)
   have d3:IsPair h4 TO x b:=s4.extBut _ _ D.TOi2 c3
   refine wpAny_bind (wpAny_seqItems d3 rfl (wpAny_bind (wpAny_updateSeq_pair d3 fun h5 f3 s5=>wpAny_bind (wpAny_letGo (wpAny_pure (wpAny_pure ?_))))))
   replace f3:IsPair h5 TO x y:=f3
   exact wpAny_bind (wpAny_seqItems f3 rfl (G2 h4 h5 d1 s4 f3 s5))
theorem Tf {Q:Option Value->Shared->Prop} (hh:A.in1.handled=none) (D:ZipApart z TI TO i1 i2 l1 l2) (Z:Zt s.heap z TI TO i1 i2 l1 l2 .none k xs ys) (hx:xs[k]?=some x) (hy:ys[k]?=some y)
  (hQ:∀h',Zt h' z TI TO i1 i2 l1 l2 (rawInt s.heap.objs.size) (k+1) xs ys->IsPair h' s.heap.objs.size x y->(∀c o,c≠z->c≠TO->c≠i1->c≠i2->s.heap.get? c=some o->h'.get? c=some o)->Q (some (.ref s.heap.objs.size)) { s with heap:=h' }) :
  wpAny (model prog w) A (pyNext (.ref z)) Q E s:=by
 have hT:s.TypeIs (.ref z) "zip":=⟨_,Z.hz,rfl⟩
 unfold pyNext
 refine wpAny_bind (wpAny_attempt (wpAny_callSpecial?_slot (name:=Str.ofString "__next__") hT F.slot_zip_next (wpAny_call_entry F.slot_zip_next hT F.entry_zip_next ?_ (F.args_zip_next_1 _))))
 refine KH D Z (fun h1 Wc s1=>?_) hh
 rw [hx]
 intro h2 h3 b b1 s2 c3 s3
 rw [hy]
 intro h4 h5 d1 s4 f3 s5
 have hsz:h5.objs.size=s.heap.objs.size:=by rw [s5.1,s4.1,s3.1,s2.1,s1.1]
 have ro:IsZip h5 z TI TO .ellipsis:=s5.extBut _ _ D.TOz.symm (s4.extBut _ _ D.i2z.symm (s3.extBut _ _ D.TOz.symm (s2.extBut _ _ D.i1z.symm Wc)))
 have k5:∀c o,c≠z->c≠TO->c≠i1->c≠i2->s.heap.get? c=some o->h5.get? c=some o:=fun c o c1 c2 c3 c4 e=>s5.extBut _ _ c2 (s4.extBut _ _ c4 (s3.extBut _ _ c2 (s2.extBut _ _ c3 (s1.extBut _ _ c1 e))))
 have g1:h5.IsTupleIter i1 l1 (k+1):=b1.at fun o e=>s5.extBut _ o D.TOi1.symm (s4.extBut _ o D.i12 (s3.extBut _ o D.TOi1.symm e))
 have g2:h5.IsTupleIter i2 l2 (k+1):=d1.at fun o e=>s5.extBut _ o D.TOi2.symm e
 have zl:z<h5.objs.size:=Heap.lt_size ro
 refine wpAny_bind (wpAny_newTuple (wpAny_bind ?_))
 unfold Builtin.SmallTypes.ownedTupleHandOut
 have ua:IsZip (h5.push { cls:=.type "tuple",data:=.seq #[x,y] }) z TI TO .ellipsis:=Heap.get?_push_of_some _ ro
 refine wpAny_bind (wpAny_setField_rec ua (by simp) fun h7 jX s7=>?_)
 replace jX:IsZip h7 z TI TO (rawInt h5.objs.size):=jX
 refine wpAny_setField_rec jX (by simp) fun h8 gZ s8=>?_
 replace gZ:IsZip h8 z TI TO (rawInt h5.objs.size):=gZ
 have up:∀c o,c≠z->h5.get? c=some o->h8.get? c=some o:=fun c o c1 e=>s8.extBut _ _ c1 (s7.extBut _ _ c1 (Heap.get?_push_of_some _ e))
 have qh:IsPair h8 h5.objs.size x y:=s8.extBut _ _ (Nat.ne_of_gt zl) (s7.extBut _ _ (Nat.ne_of_gt zl) (Heap.get?_push_size _ rfl))
 rw [hsz]at gZ qh
 refine wpAny_pure ⟨_,rfl,wpAny_pure ?_⟩
 show Q (some (.ref h5.objs.size)) _
 rw [hsz]
 have kk:∀c o,c≠z->c≠TO->c≠i1->c≠i2->s.heap.get? c=some o->h8.get? c=some o:=fun c o c1 c2 c3 c4 e=>up c o c1 (k5 c o c1 c2 c3 c4 e)
 refine hQ h8 ⟨gZ,kk _ _ D.TIz D.TITO D.TIi1 D.TIi2 Z.hI,⟨x,y,up _ _ D.TOz f3⟩,g1.at fun o e=>up _ o D.i1z e,g2.at fun o e=>up _ o D.i2z e,Z.t1.at fun o e=>kk _ o D.l1z D.l1TO D.l1i1 D.l1i2 e,Z.t2.at fun o e=>kk _ o D.l2z D.l2TO D.l2i1 D.l2i2 e⟩ qh kk
theorem VM {Q:Option Value->Shared->Prop} (hh:A.in1.handled=none) (D:ZipApart z TI TO i1 i2 l1 l2) (Z:Zt s.heap z TI TO i1 i2 l1 l2 .none k xs ys) (jz:xs[k]?=none\/ys[k]?=none)
  (hQ:∀h',(∀c o,c≠z->c≠TO->c≠i1->c≠i2->s.heap.get? c=some o->h'.get? c=some o)->Q none { s with heap:=h' }):wpAny (model prog w) A (pyNext (.ref z)) Q E s:=by
 have hT:s.TypeIs (.ref z) "zip":=⟨_,Z.hz,rfl⟩
 unfold pyNext
 refine wpAny_bind (wpAny_attempt (wpAny_callSpecial?_slot (name:=Str.ofString "__next__") hT F.slot_zip_next (wpAny_call_entry F.slot_zip_next hT F.entry_zip_next ?_ (F.args_zip_next_1 _))))
 refine KH D Z (fun h1 Wc s1=>?_) hh
 cases hx:xs[k]? with
 |none=>
  intro h2 e s2 ⟨oe,U5,fO⟩
  have Yr:IsZip h2 z TI TO .ellipsis:=s2 _ _ D.i1z.symm Wc
  have pD:e≠z:=fun x=>by subst x;rw [Yr]at U5;cases U5;simp at fO
  refine wpAny_setField_rec Yr (by simp) fun h3 _ s3=>?_
  refine wpAny_bind (wpAny_isInstance (T:="StopIteration") (b:=true) ⟨oe,s3.extBut _ _ pD U5,fO⟩ isSubtype_stop (wpAny_pure (hQ h3 fun c o c1 _ c3 _ x=>?_)))
  exact s3.extBut _ _ c1 (s2 _ _ c3 (s1.extBut _ _ c1 x))
 |some x=>
  have hy:ys[k]?=none:=by rcases jz with h|h;rw [hx]at h;cases h;exact h
  intro h2 h3 b b1 s2 c3 s3
  rw [hy]
  intro h4 e s4 ⟨oe,U5,fO⟩
  have rR:IsZip h4 z TI TO .ellipsis:=s4 _ _ D.i2z.symm (s3.extBut _ _ D.TOz.symm (s2.extBut _ _ D.i1z.symm Wc))
  have pD:e≠z:=fun x=>by subst x;rw [rR]at U5;cases U5;simp at fO
  refine wpAny_setField_rec rR (by simp) fun h5 _ s5=>?_
  refine wpAny_bind (wpAny_isInstance (T:="StopIteration") (b:=true) ⟨oe,s5.extBut _ _ pD U5,fO⟩ isSubtype_stop (wpAny_pure (hQ h5 fun c o c1 c2 c3 c4 x=>?_)))
  exact s5.extBut _ _ c1 (s4 _ _ c4 (s3.extBut _ _ c2 (s2.extBut _ _ c3 (s1.extBut _ _ c1 x))))
end
abbrev zO (I O:Addr):Obj:={ cls:=.type "zip",data:=.fields #[.none,.bool false,.bool false,.ref I,.ref O] }
abbrev prO (a b:Value):Obj:={ cls:=.type "tuple",data:=.seq #[a,b] }
abbrev zq2 (h:Heap) (a b:Addr):Heap:=(h.push (tiO a)).push (tiO b)
abbrev zq3 (h:Heap) (a b:Addr):Heap:=(zq2 h a b).push (prO (.ref h.objs.size) (.ref (h.push (tiO a)).objs.size))
abbrev zq4 (h:Heap) (a b:Addr):Heap:=(zq3 h a b).push (prO .none .none)
abbrev zq5 (h:Heap) (a b:Addr):Heap:=(zq4 h a b).push (zO (zq2 h a b).objs.size (zq3 h a b).objs.size)
theorem QO (a b:Addr) (xs ys:Array Value) :
  Meets (Builtin.«zip.__new__» ⟨[.type "zip",.ref a,.ref b],[]⟩) (fun _ R s=>s.heap.IsTuple a xs/\s.heap.IsTuple b ys/\R (.ok (.ret (.ref (zq4 s.heap a b).objs.size))) { s with heap:=zq5 s.heap a b }):=
 .of_wp fun prog w A R s h=>by
  obtain ⟨hp,g,d,tk,os⟩:=s
  obtain ⟨t1,t2,h⟩:=h
  have Lq:=sub_zip
  have q1:Heap.IsTuple (Shared.heap ⟨hp,g,d,tk,os⟩) a xs:=t1
  have q2:Heap.IsTuple (Shared.heap ⟨hp.push (tiO a),g,d,tk,os⟩) b ys:=Heap.IsTuple.push t2 _
  wp_walk using wpAny_pyIter_tuple q1,wpAny_pyIter_tuple q2
  exact ⟨_,rfl,h⟩
section
variable {prog:Program}{w:World}{A:Around}{E:Value->Shared->Prop}{s:Shared}
theorem UJ {a b:Addr} {xs ys:Array Value} {Q:Value->Shared->Prop} (t1:s.heap.IsTuple a xs) (t2:s.heap.IsTuple b ys)
  (h:∀h',Zt h' (s.heap.objs.size+4) (s.heap.objs.size+2) (s.heap.objs.size+3) s.heap.objs.size (s.heap.objs.size+1) a b .none 0 xs ys->(∀c o,s.heap.get? c=some o->h'.get? c=some o)->Q (.ref (s.heap.objs.size+4)) { s with heap:=h' }) :
  wpAny (model prog w) A (call (.type "zip") [.ref a,.ref b]) Q E s:=by
 refine callType_new F.called_zip (by decide) (F.typeCall_zip_2 _ _) (F.newCall_zip_2 _ _) (fun obj=>F.args_object_init_3 obj _ _) F.entry_zip_new (QO a b xs ys) ⟨t1,t2,?_⟩
 have z1:(s.heap.push (tiO a)).objs.size=s.heap.objs.size+1:=Heap.size_push ..
 have z2:(zq2 s.heap a b).objs.size=s.heap.objs.size+2:=by rw [Heap.size_push,z1]
 have z3:(zq3 s.heap a b).objs.size=s.heap.objs.size+3:=by rw [Heap.size_push,z2]
 have z4:(zq4 s.heap a b).objs.size=s.heap.objs.size+4:=by rw [Heap.size_push,z3]
 have g5:(zq5 s.heap a b).get? (zq4 s.heap a b).objs.size=some (zO (zq2 s.heap a b).objs.size (zq3 s.heap a b).objs.size):=Heap.get?_push_size _ rfl
 have g4:(zq5 s.heap a b).get? (zq3 s.heap a b).objs.size=some (prO .none .none):=Heap.get?_push_of_some _ (Heap.get?_push_size _ rfl)
 have g3:(zq5 s.heap a b).get? (zq2 s.heap a b).objs.size=some (prO (.ref s.heap.objs.size) (.ref (s.heap.push (tiO a)).objs.size)):=Heap.get?_push_of_some _ (Heap.get?_push_of_some _ (Heap.get?_push_size _ rfl))
 have g2:(zq5 s.heap a b).get? (s.heap.push (tiO a)).objs.size=some (tiO b):=Heap.get?_push_of_some _ (Heap.get?_push_of_some _ (Heap.get?_push_of_some _ (Heap.get?_push_size _ rfl)))
 have g1:(zq5 s.heap a b).get? s.heap.objs.size=some (tiO a):=Heap.get?_push_of_some _ (Heap.get?_push_of_some _ (Heap.get?_push_of_some _ (Heap.get?_push_of_some _ (Heap.get?_push_size _ rfl))))
 have kp:∀c o,s.heap.get? c=some o->(zq5 s.heap a b).get? c=some o:=fun c o e=>Heap.get?_push_of_some _ (Heap.get?_push_of_some _ (Heap.get?_push_of_some _ (Heap.get?_push_of_some _ (Heap.get?_push_of_some _ e))))
 show _/\_
 rw [z2,z3,z4]at g5
 rw [z1,z2]at g3
 rw [z3]at g4
 rw [z1]at g2
 rw [z4]
 exact ⟨⟨_,g5,rfl⟩,h _ ⟨g5,g3,⟨_,_,g4⟩,⟨_,g1,rfl,rfl⟩,⟨_,g2,rfl,rfl⟩,t1.at fun o e=>kp _ o e,t2.at fun o e=>kp _ o e⟩ kp⟩
end
def Itz (K:PySem.W.Frag) (a b:Addr):It:=
 ⟨fun i H=>∃xs ys x y,SqT K H a xs/\SqT K H b ys/\xs[i]?=some x/\ys[i]?=some y,fun i H v H'=>∃x y T,H T=none/\v=.ref T/\H'=upd H T (.tup [x,y])/\(∀xs,SqT K H a xs->xs[i]?=some x)/\∀ys,SqT K H b ys->ys[i]?=some y,
  fun i H=>∃xs ys,SqT K H a xs/\SqT K H b ys/\(xs.length≤i\/ys.length≤i)⟩
def Zs (z TI TO i1 i2 l1 l2:Addr) (i:Nat) (h:Heap):Prop:=IsZip h z TI TO .none/\IsPair h TI (.ref i1) (.ref i2)/\(∃a b,IsPair h TO a b)/\h.IsTupleIter i1 l1 i/\h.IsTupleIter i2 l2 i
theorem V1 {P:Program} {w:World} {K:PySem.W.Frag} {elts:List Expr} {x1:Nat} {pos:Pos} {z TI TO i1 i2 a b:Addr} (D:ZipApart z TI TO i1 i2 a b):Turn P w K (.Tuple elts x1 pos) (Itz K a b) [z,TI,TO,i1,i2] z (Zs z TI TO i1 i2 a b) where
 mem:=by simp
 obj:=fun i h st c hc=>by
  obtain ⟨s1,s2,⟨x,y,s3⟩,⟨o4,s4,c4,d4⟩,⟨o5,s5,c5,d5⟩⟩:=st
  simp only [List.mem_cons,List.not_mem_nil,or_false]at hc
  rcases hc with rfl|rfl|rfl|rfl|rfl
  ·exact ⟨_,s1,fun v z=>by cases z⟩
  ·exact ⟨_,s2,fun v z=>by cases z⟩
  ·exact ⟨_,s3,fun v z=>by cases z⟩
  ·exact ⟨o4,s4,fun v z=>by rw [d4]at z;cases z⟩
  ·exact ⟨o5,s5,fun v z=>by rw [d5]at z;cases z⟩
 keep:=fun i h h' st k=>by
  obtain ⟨s1,s2,⟨x,y,s3⟩,s4,s5⟩:=st
  exact ⟨k z (by simp) _ s1,k TI (by simp) _ s2,⟨x,y,k TO (by simp) _ s3⟩,s4.at fun o e=>k i1 (by simp) o e,s5.at fun o e=>k i2 (by simp) o e⟩
 item:=by
  intro X hP hw hK hc i pins s σ H E I hf st hg
  subst hP hw hK
  obtain ⟨xs,ys,x,y,gm,ZV,hx,hy⟩:=hg
  obtain ⟨bU,iM,p1,Wc⟩:=I.tuple gm
  obtain ⟨Lh,gn,p2,Yr⟩:=I.tuple ZV
  obtain ⟨u1,aY,tZ⟩:=iM.get hx
  obtain ⟨u2,P2,wX⟩:=gn.get hy
  obtain ⟨s1,s2,s3,s4,s5⟩:=st
  refine Tf (by simpa using I.ok.hd hc) D ⟨s1,s2,s3,s4,s5,p1,p2⟩ (by simpa using aY) (by simpa using P2) fun h1 Z1 hT hk=>?_
  refine ⟨_,rfl,wpAny_letOwnedTupleGo_zip (s:={ s with heap:=h1 }) Z1.hz fun h2 jc sb=>?_⟩
  have LV:∀c o,c≠z->h1.get? c=some o->h2.get? c=some o:=fun c o hb q=>sb.extBut c o hb q
  have MO:H s.heap.objs.size=none:=I.hok.fresh (Nat.le_refl _)
  have yU:z<s.heap.objs.size:=Heap.lt_size s1
  have Dr:∀c o,c∉[z,TI,TO,i1,i2]->s.heap.get? c=some o->h2.get? c=some o:=fun c o hm q=>by
   simp only [List.mem_cons,List.not_mem_nil,or_false,not_or]at hm
   exact LV c o hm.1 (hk c o hm.1 hm.2.2.1 hm.2.2.2.1 hm.2.2.2.2 q)
  have Lu:∀c o,H c=some o->c∉[z,TI,TO,i1,i2]:=fun c o q hm=>by
   have:=(hf c hm).1
   rw [q]at this
   cases this
  have un:Un (frs X.stack) [z,TI,TO,i1,i2] H (upd H s.heap.objs.size (.tup [x,y])) s.heap h2:=by
   refine ⟨fun c o q n hb hc=>Dr c o hc q,fun c o q n hb hc=>⟨o.slots,Dr c o hc q⟩,fun c o q n hc=>?_,fun c o q hc=>⟨o,Dr c o hc q⟩,fun c ys q=>?_,fun c o v q=>?_,fun c ps q=>⟨#[],?_⟩⟩
   ·rw [AN (Nat.ne_of_lt (Heap.lt_size q))];exact n
   ·rw [AN (AK q MO)];exact q
   ·rw [AN (AK q MO)];exact q
   ·rw [AN (AK q MO),q];simp
  have hok:HOk X.prog X.w (upd H s.heap.objs.size (.tup [x,y])) h2:=fun c v q=>by
   by_cases hb:c=s.heap.objs.size
   ·subst hb
    rw [Ar]at q
    cases q
    exact ⟨by show 2≤sizeLine;rw [sizeLine_eq];decide,[u1,u2],.cons tZ (.cons wX .nil),_,LV _ _ (Nat.ne_of_gt yU) hT,rfl,_,rfl⟩
   ·rw [AN hb]at q
    refine (I.hok c v q).stay (fun e o hc r=>?_) (fun e r=>by rw [AN (AK r MO)];exact r) fun e ys r=>by rw [AN (AK r MO)];exact r
    rcases hc with rfl|hc
    ·exact Dr _ o (Lu _ _ q) r
    ·exact Dr e o (Lu _ _ hc) r
  have I1:Inv X pins σ (upd H s.heap.objs.size (.tup [x,y])) { s with heap:=h2 }:=I.call' (s':={ s with heap:=h2 }) rfl un hok I.bare fun c hb=>by
   have:=hf c hb
   exact ⟨this.2.2.2.1,this.2.1,this.2.2.2.2.1,this.2.2.2.2.2⟩
  refine ⟨.ref s.heap.objs.size,_,I1,rfl,⟨x,y,_,MO,rfl,rfl,fun zs fY=>by rw [I.tuple_inj fY gm];exact hx,fun zs fY=>by rw [I.tuple_inj fY ZV];exact hy⟩,⟨jc,LV _ _ D.TIz Z1.hI,?_,Z1.h1.at fun o e=>LV _ o D.i1z e,Z1.h2.at fun o e=>LV _ o D.i2z e⟩,fun c hb=>?_⟩
  ·obtain ⟨a',b',e⟩:=Z1.hO
   exact ⟨a',b',LV _ _ D.TOz e⟩
  ·have A4:c<s.heap.objs.size:=by
    simp only [List.mem_cons,List.not_mem_nil,or_false]at hb
    obtain ⟨a',b',s3⟩:=s3
    obtain ⟨o4,s4,_⟩:=s4
    obtain ⟨o5,s5,_⟩:=s5
    rcases hb with rfl|rfl|rfl|rfl|rfl
    ·exact Heap.lt_size s1
    ·exact Heap.lt_size s2
    ·exact Heap.lt_size s3
    ·exact Heap.lt_size s4
    ·exact Heap.lt_size s5
   rw [AN (Nat.ne_of_lt A4)]
   exact (hf c hb).1
 done:=by
  intro X hP hw hK hc i pins s σ H E I hf st hg
  subst hP hw hK
  obtain ⟨xs,ys,gm,ZV,oH⟩:=hg
  obtain ⟨bU,iM,p1,Wc⟩:=I.tuple gm
  obtain ⟨Lh,gn,p2,Yr⟩:=I.tuple ZV
  obtain ⟨s1,s2,s3,s4,s5⟩:=st
  have l1:=iM.length
  have l2:=gn.length
  refine VM (by simpa using I.ok.hd hc) D ⟨s1,s2,s3,s4,s5,p1,p2⟩ (oH.imp (fun h=>by simp;lia) fun h=>by simp;lia) fun h' hk=>⟨rfl,?_⟩
  have Dr:∀c o,c∉[z,TI,TO,i1,i2]->s.heap.get? c=some o->h'.get? c=some o:=fun c o hm q=>by
   simp only [List.mem_cons,List.not_mem_nil,or_false,not_or]at hm
   exact hk c o hm.1 hm.2.2.1 hm.2.2.2.1 hm.2.2.2.2 q
  have Lu:∀c o,H c=some o->c∉[z,TI,TO,i1,i2]:=fun c o q hm=>by
   have:=(hf c hm).1
   rw [q]at this
   cases this
  refine I.call' (s':={ s with heap:=h' }) rfl ⟨fun c o q n hb hc=>Dr c o hc q,fun c o q n hb hc=>⟨o.slots,Dr c o hc q⟩,fun c o q n hc=>n,fun c o q hc=>⟨o,Dr c o hc q⟩,fun c ys q=>q,fun c o v q=>q,fun c ps q=>⟨#[],by rw [q];simp⟩⟩ (fun c v q=>?_) I.bare fun c hb=>?_
  ·refine (I.hok c v q).stay (fun e o hc r=>?_) (fun e r=>r) fun e ys r=>r
   rcases hc with rfl|hc
   ·exact Dr _ o (Lu _ _ q) r
   ·exact Dr e o (Lu _ _ hc) r
  ·have:=hf c hb
   exact ⟨this.2.2.2.1,this.2.1,this.2.2.2.2.1,this.2.2.2.2.2⟩
 self:=fun A i s Q E st h=>wpAny_pyIter_zip st.1 h
def Lm (l m:List Dat):List Dat:=(l.zip m).map fun p=>.tup [p.1,p.2]
theorem Uj {l m:List Dat} {i:Nat} {d:Dat} (h:(Lm l m)[i]?=some d):∃x y,l[i]?=some x/\m[i]?=some y/\d=.tup [x,y]:=by
 unfold Lm at h
 rw [List.getElem?_map]at h
 obtain ⟨p,hp,rfl⟩:=Option.map_eq_some_iff.mp h
 rw [List.getElem?_zip_eq_some]at hp
 exact ⟨p.1,p.2,hp.1,hp.2,rfl⟩
theorem aI {K:PySem.W.Frag} {G:Gs} {l m:List Dat} {H:Hp} {a b:Addr} {vs ws:List V} (h1:SqT K (hid H G) a vs) (r1:RepL K (hid H G) l vs) (h2:SqT K (hid H G) b ws) (r2:RepL K (hid H G) m ws):Wk K (Itz K a b) H G (Lm l m):=by
 intro H' G' e
 have YU:=Af AJ (Af e.hid h1)
 have Wy:=Af AJ (Af e.hid h2)
 refine ⟨fun i d hd=>?_,vs,ws,YU,Wy,?_⟩
 ·obtain ⟨x,y,hx,hy,rfl⟩:=Uj hd
  obtain ⟨v,hv,rv⟩:=r1.get hx
  obtain ⟨u,hu,ru⟩:=r2.get hy
  refine ⟨⟨vs,ws,v,u,YU,Wy,hv,hu⟩,fun xx Ui hh=>?_⟩
  obtain ⟨x',y',T,hT,rfl,rfl,g1,g2⟩:=hh
  have e1:=g1 vs YU
  have e2:=g2 ws Wy
  rw [hv]at e1
  rw [hu]at e2
  cases e1
  cases e2
  refine ⟨Ext.alloc hT,fun o=>o.alloc hT,fun o=>?_⟩
  rw [Rep]
  exact ⟨T,[v,u],rfl,SqT.of (EX (o.free hT) Ar),RepL.cons ((rv.same e.hid).same (Ext.alloc hT).hid) (RepL.cons ((ru.same e.hid).same (Ext.alloc hT).hid) RepL.nil)⟩
 ·have l1:=r1.length
  have l2:=r2.length
  unfold Lm
  rw [List.length_map,List.length_zip,l1,l2]
  lia
section
variable {X:Cx}{ρ:Rho}{G:Gs}{a b:Expr}{l m:List Dat}{pos p1:Pos}{elts:List Expr}{x1:Nat}{Tu:Pos}
theorem Z3 {Q:List Dat->Gs->Prop} (hm:X.mg "zip"=none) (ha:PX X ρ G a (.tup l)) (hb:PX X ρ G b (.tup m)) (q:Q (Lm l m) G) (hg:Gl X "zip":=by rfl) (he:starEach [a,b] X.env=(false,eval a X.env)::starEach [b] X.env:=by rfl) (he2:starEach [b] X.env=(false,eval b X.env)::starEach [] X.env:=by rfl)
  (hpl:(backTo pos (starEach [b] X.env)).any (·.1)=false:=by rfl):WI X ρ G (.Tuple elts x1 Tu) (.Call (.Name "zip" p1) [a,b] [] pos) Q:=by
 intro pins s σ H I S
 refine wpAny_Call_Name_kw (Cr I hg hm (by decide +kernel:bootBuiltins "zip"=some (.type "zip")) ?_ (by decide) (by decide))
 have M8:PXs X ρ G [a,b] [.tup l,.tup m]:=AD ha (AD hb AF he2) he
 refine PyProof.Rows.callWith_type1 (thn (M8 pos pins s σ H I S) fun us s1 ⟨vs,H1,I1,rv,d',G1,e1,o1,rep,q1,q2⟩=>?_) he hpl
 subst q1;subst q2
 rw [RepL]at rep
 obtain ⟨v1,r1,rfl,ra,rep⟩:=rep
 rw [RepL]at rep
 obtain ⟨v2,r2,rfl,rb,rep⟩:=rep
 rw [RepL]at rep
 subst rep
 rw [Rep]at ra rb
 obtain ⟨pa,as,rfl,h1,g1⟩:=ra
 obtain ⟨pb,bs,rfl,h2,g2⟩:=rb
 obtain ⟨u1,u2,rfl,ve,uI⟩:=Mh rv
 cases ve
 cases uI
 obtain ⟨bU,iM,qM,Wc⟩:=I1.tuple (Af AJ h1)
 obtain ⟨Lh,gn,rB,Yr⟩:=I1.tuple (Af AJ h2)
 have la:pa<s1.heap.objs.size:=by obtain ⟨o,ho,_⟩:=qM;exact Heap.lt_size ho
 have lb:pb<s1.heap.objs.size:=by obtain ⟨o,ho,_⟩:=rB;exact Heap.lt_size ho
 refine UJ (show s1.heap.IsTuple pa bU.toArray from qM) (show s1.heap.IsTuple pb Lh.toArray from rB) fun h' Z hk=>?_
 refine wpAny_pyIter_zip (s:={ s1 with heap:=h' }) Z.hz ?_
 have D:=zipApart_new la lb
 refine ⟨s1.heap.objs.size+4,[s1.heap.objs.size+4,s1.heap.objs.size+2,s1.heap.objs.size+3,s1.heap.objs.size,s1.heap.objs.size+1],_,_,H1,rfl,I1.kept (t':=s1.toks) hk,V1 D,⟨Z.hz,Z.hI,Z.hO,Z.h1,Z.h2⟩,fun c hc=>?_,Lm l m,G1,e1,o1,aI h1 g1 h2 g2,q⟩
 have hle:s1.heap.objs.size≤c:=by
  simp only [List.mem_cons,List.not_mem_nil,or_false]at hc
  rcases hc with rfl|rfl|rfl|rfl|rfl
  ·exact Nat.le_add_right _ 4
  ·exact Nat.le_add_right _ 2
  ·exact Nat.le_add_right _ 3
  ·exact Nat.le_refl _
  ·exact Nat.le_add_right _ 1
 exact I1.fpOk hle (I1.hok.fresh hle)
end
section
variable {X:Cx}{ρ:Rho}{G:Gs}{e a b:Expr}{d d1 d2:Dat}{l m:List Dat}{pos:Pos}{i j k:Int}{p:Addr}{D:DE}{RX:Value->Gs->Prop}{rest:List Stmt}
theorem SR {c:Bool} {pp:Pos} (hm:X.mg "int"=none) (ha:PX X ρ G a (.bl c)) (hg:Gl X "int":=by rfl) (he:starEach [a] X.env=(false,eval a X.env)::starEach [] X.env:=by rfl):PX X ρ G (.Call (.Name "int" pp) [a] [] pos) (.int (if c then 1 else 0)):=
 Fv UI hg hm (by decide +kernel) ha (fun H x Q o r kk=>by
  cases (show x=V.bl c from r)
  exact .inr ⟨c,rfl,kk _ _ (BL o rfl)⟩) (he:=he)
theorem Ip {Q:Dat->Gs->Prop} (h:WEX X ρ G e Q RX) (hq:∀d G',Q d G'->D.nx ρ G') (hs:swapsWith e none pos.line X.env=pure false:=by rfl):Zk X ρ G [.Expr e pos] D RX:=fun pins s σ H I S=>
 wpAny_execs_cons (wpAny_Expr_any (thn (h pins s σ H I S) fun v s1 ⟨x,H1,I1,r1,d',G1,e1,o1,r2,q1⟩=>wpAny_execs_nil ⟨σ,H1,I1,ρ,G1,e1,S.ext e1 o1,hq _ _ q1⟩) I.quiet hs)
end
section
open AutoSeq1 (wpAny_loadPart')
theorem fS (l:Addr) (items:Array Value) (n:Nat) (b:Addr) (Bg:Array Value) (n2:Nat) (dct:Option Addr) (sl:Array (Option Value)) (yn:¬(!items.isEmpty&&Builtin.List.listTooLong (items.size+Bg.size))=true) (aP:items.size≤sizeLine) (X4:items.size+Bg.size≤sizeLine+1) :
  Meets (Builtin.«list.extend» ⟨[.ref l,.ref b],[]⟩) (fun _ R s=>s.heap.get? l=some { cls:=.type "list",dict:=none,data:=.seq items n,slots:=#[] }/\s.heap.get? b=some { cls:=.type "tuple",dict:=dct,data:=.seq Bg n2,slots:=sl }/\R (.ok (.ret Value.none)) { s with heap:=s.heap.update l (Obj.mapSeq fun x=>x++Bg),toks:=s.toks }):=
 .of_wp fun prog w A R s h=>by
  obtain ⟨hp,g,d,tk,os⟩:=s
  obtain ⟨hl,hb,h⟩:=h
  have f1:=AutoSeq1.idx_int
  have f2:=AutoSeq1.sub_tuple_tuple
  have f3:=AutoSeq1.sub_list_list
  have f4:=AutoSeq1.sub_tuple_list
  have f5:=AutoSeq1.sub_list_tuple
  have dm:(items++Bg).size≤sizeLine+1:=by rw [Array.size_append];exact X4
  wp_walk using (wpAny_updateSeq hl rfl (hz:=aP) (_hz':=dm)),wpAny_loadPart' hl,wpAny_loadPart' hb
  exact ⟨_,rfl,h⟩
end
section
variable {X:Cx}{ρ:Rho}{G:Gs}{e a:Expr}{l m:List Dat}{pos:Pos}{D:DE}{rest:List Stmt}
def fg (K:PySem.W.Frag):V->List V->Hp->VK->Prop:=fun x vs H Q=>∃l b xs zs,x=.ref l/\vs=[.ref b]/\H l=some (.lst xs)/\SqT K H b zs/\xs.length+zs.length≤sizeLine/\Q .non (upd H l (.lst (xs++zs)))
theorem Xd:MtM X "list.extend" (fg X.K):=by
 intro pins s σ H x vs v us Q I rx rv h
 obtain ⟨l,b,xs,zs,rfl,rfl,hH,hB,hz,q⟩:=h
 cases rx
 obtain ⟨u,rfl,ru⟩:=rv.one
 cases ru
 obtain ⟨z,its,n,r,hl,e⟩:=I.lstM hH
 obtain ⟨Lh,r2,p2,z2⟩:=I.tuple hB
 obtain ⟨⟨cls,dd,data,sl⟩,ho,hc,n2,hd⟩:=id p2
 simp only at hc hd
 subst hc hd
 have l2:=r2.length
 have hsz:its.toArray.size+Lh.toArray.size≤sizeLine:=by rw [List.size_toArray,List.size_toArray,<-hl,<-l2];exact hz
 refine call_meets F.slot_list_extend ⟨_,e,rfl⟩ F.entry_list_extend (F.args_list_extend_2 _ _) (fS l its.toArray n b Lh.toArray n2 dd sl (by rw [Wn hsz,Bool.and_false];exact Bool.false_ne_true) (by lia) (by lia)) ⟨e,ho,?_⟩
 refine ⟨.non,_,I.lset (its':=its++Lh) hH e (by simp) (r.append r2) ?_,rfl,q⟩
 rw [List.length_append]
 exact hz
theorem Pf {p:Addr} {apos Ae:Pos} (hx:PX X ρ G a (.fn p)) (h:PX X ρ G e (.tup m)) (hG:G p=some (.lst l)) (hz:l.length+m.length≤sizeLine) (q:WSs X ρ (put G p (.lst (l++m))) rest D)
  (C6:attributeBase a "extend" X.env (eval a X.env)=eval a X.env:=by rfl) (CG:(apos.endLine==Ae.line)=true:=by rfl) (he:starEach [e] X.env=(false,eval e X.env)::starEach [] X.env:=by rfl)
  (KR:((backTo Ae (starEach [e] X.env)).all (fun x=>!x.1)&&(backToKw Ae (keywordEach [] X.env)).all (fun x=>x.1.isSome)&&decide (([e]:List Expr).length+([]:List Keyword).length+(if ([]:List Keyword).isEmpty then 0 else 1)<30))=true:=by rfl)
  (hs:swapsWith (.Call (.Attribute a "extend" apos) [e] [] Ae) none pos.line X.env=pure false:=by rfl):WSs X ρ G (.Expr (.Call (.Attribute a "extend" apos) [e] [] Ae) pos::rest) D:=
 Bt (OM (Rn (Ze PySem.F.plainAttrs_list PySem.F.slot_list_extend PySem.F.type_list_extend Xd Ak (B3 Ak D3 he) C6 KR CG he rfl) hs) fun σ H S=>⟨ρ,G,_,hx,S,fun x H1 ⟨_,_,e1,o1,r1,q1,Bp⟩=>by
  subst q1;subst Bp
  cases (show x=V.ref p from r1)
  obtain ⟨bP,h1,_⟩:=o1 p _ hG
  refine ⟨.inl ⟨rfl,bP,SqL.of h1⟩,ρ,_,_,h,S.ext e1 o1,fun y H2 ⟨_,_,e2,o2,r2,q2,Ek⟩=>?_⟩
  subst q2;subst Ek
  obtain ⟨vs,h2,r3⟩:=o2 p _ hG
  rw [Rep]at r2
  obtain ⟨b,zs,rfl,h4,r4⟩:=r2
  refine ⟨p,b,vs,zs,rfl,rfl,h2,Af AJ h4,by rw [r3.length,r4.length];exact hz,?_⟩
  obtain ⟨E,O⟩:=Nm o2 hG (r3.append r4)
  exact ⟨ρ,_,(e1.trans e2).trans E,S.ext ((e1.trans e2).trans E) O,q⟩⟩)
end
def B5:Dat->Bool
 |.tup [.int a,.int b]=>(decide (0≤a)&&decide (a≤7))&&(decide (0≤b)&&decide (b≤7))
 |_=>false
def Fo:SpD:=fun ds G R=>∃d:Dat,ds=[d]/\M9 d=true/\R (.bl (B5 d)) G
def YL (l:List Dat):Bool:=(l.zip (l.drop 1)).all fun p=>Bw true p.1 p.2
def II:SpD:=fun ds G R=>∃l:List Dat,ds=[.tup l]/\l.length≤1000/\(∀p∈l.zip (l.drop 1),B6 9 p.1 p.2=true/\AG 9 p.1=true/\AG 9 p.2=true)/\R (.bl (YL l)) G
def okF (d:Dat):Prop:=(∃t,tyS d=some t)/\∀l,d=.tup l->l.length≤1000/\∀x∈l,M9 x=true
def isF (d:Dat):Prop:=∃F:List Sq,d=fl F/\Good F
def Fy (B:Addr):SpX:=fun ds G R RX=>∃d:Dat,ds=[d]/\okF d/\(isF d->R d G)/\(¬isF d->RX (.ref B) G)
theorem Sv {d:Dat} (h:B5 d=true):∃q:Sq,d=sq q/\0≤q.1/\q.1≤7/\0≤q.2/\q.2≤7:=by
 unfold B5 at h
 split at h
 ·rename_i a b
  rw [Bool.and_eq_true,Bool.and_eq_true,Bool.and_eq_true,decide_eq_true_eq,decide_eq_true_eq,decide_eq_true_eq,decide_eq_true_eq]at h
  exact ⟨(a,b),rfl,h.1.1,h.1.2,h.2.1,h.2.2⟩
 ·cases h
theorem Tp {q:Sq} (h:0≤q.1/\q.1≤7/\0≤q.2/\q.2≤7):B5 (sq q)=true:=by
 unfold B5 sq
 simp only [Bool.and_eq_true,decide_eq_true_eq]
 exact ⟨⟨h.1,h.2.1⟩,h.2.2⟩
theorem OS {l:List Dat} (h:l.all B5=true):∃F:List Sq,l=F.map sq/\∀p∈F,0≤p.1/\p.1≤7/\0≤p.2/\p.2≤7:=by
 induction l with
 |nil=>exact ⟨[],rfl,fun _ h=>nomatch h⟩
 |cons d l ih=>
  rw [List.all_cons,Bool.and_eq_true]at h
  obtain ⟨q,rfl,hq⟩:=Sv h.1
  obtain ⟨F,rfl,hF⟩:=ih h.2
  refine ⟨q::F,rfl,fun p hp=>?_⟩
  rcases List.mem_cons.mp hp with rfl|hp
  ·exact hq
  ·exact hF p hp
theorem QU:∀F:List Sq,YL (F.map sq)=true↔F.Pairwise A1
 |[]=>⟨fun _=>.nil,fun _=>rfl⟩
 |[a]=>⟨fun _=>List.pairwise_singleton _ _,fun _=>rfl⟩
 |a::b::r=>by
  have ih:=QU (b::r)
  have e:YL ((a::b::r).map sq)=(Bw true (sq a) (sq b)&&YL ((b::r).map sq)):=rfl
  rw [e,Bool.and_eq_true,ih,WO,decide_eq_true_eq,List.pairwise_cons (l:=b::r)]
  constructor
  ·rintro ⟨h1,h2⟩
   refine ⟨fun c hc=>?_,h2⟩
   rcases List.mem_cons.mp hc with rfl|hc
   ·exact h1
   ·exact Dh h1 ((List.pairwise_cons.mp h2).1 c hc)
  ·rintro ⟨h1,h2⟩
   exact ⟨h1 b (List.mem_cons_self ..),h2⟩
theorem Yh (F:List Sq):∀p∈(F.map sq).zip ((F.map sq).drop 1),B6 9 p.1 p.2=true/\AG 9 p.1=true/\AG 9 p.2=true:=by
 intro p hp
 obtain ⟨h1,h2⟩:=List.of_mem_zip (a:=p.1) (b:=p.2) hp
 obtain ⟨x,_,e1⟩:=List.mem_map.mp h1
 obtain ⟨y,_,e2⟩:=List.mem_map.mp (List.mem_of_mem_drop h2)
 rw [<-e1,<-e2]
 exact ⟨rfl,A7 x 8,A7 y 8⟩
theorem Zr {F:List Sq} (h:F.length≤1000):okF (fl F):=⟨⟨_,rfl⟩,fun l e=>by
 unfold fl at e
 injection e with e
 subst e
 refine ⟨by rw [List.length_map];exact h,fun x hx=>?_⟩
 obtain ⟨y,_,rfl⟩:=List.mem_map.mp hx
 rfl⟩
theorem WY {xs:List V} {us:List Value} (h:Vals xs us):Vals xs.reverse us.reverse:=by
 induction h with
 |nil=>exact .nil
 |cons r _ ih=>
  rw [List.reverse_cons,List.reverse_cons]
  exact ih.append (.cons r .nil)
theorem RepL.rev {K:PySem.W.Frag} {H:Hp}:∀{ds:List Dat} {vs:List V},RepL K H ds vs->RepL K H ds.reverse vs.reverse
 |[],vs,h=>by rw [RepL]at h;subst h;exact RepL.nil
 |d::ds,vs,h=>by
  rw [RepL]at h
  obtain ⟨v,r,rfl,h1,h2⟩:=h
  rw [List.reverse_cons,List.reverse_cons]
  exact (RepL.rev h2).append (RepL.cons h1 RepL.nil)
def Fz:SpD:=fun ds G R=>∃l:Lay,ds=[lay l]/\l.length≤1000/\R (.lst ((TSq.sort (AM l)).map sq)) G
def chr (c:Nat):Str:=⟨#[c]⟩
def Bh (l:List Nat):Str:=⟨l.toArray⟩
theorem Ci (l:List Nat):(Bh l).cps.toList=l:=rfl
theorem DU (l:List Nat):(Bh l).length=l.length:=by show l.toArray.size=_;simp
def BB (k l:Lay):List (Dat×Dat):=(AM l).map fun q=>(sq q,Dat.str (chr (sgn k q)))
structure BX (k:Lay) (h w:Nat):Prop where
 box:∀p∈AM k,0≤p.1/\p.1<h/\0≤p.2/\p.2<w
 hh:∃p∈AM k,p.1+1=h
 ww:∃p∈AM k,p.2+1=w
 sm:h≤8/\w≤8
def Jl:SpD:=fun ds G R=>∃k:Lay,ds=[lay k]/\(AM k).Nodup/\k.length≤1000/\∀p,G p=none->R (.fn p) (put G p (.dct (BB k k)))
def Mt:SpD:=fun ds G R=>∃(k:Lay) (p:Addr) (r w:Nat),ds=[.fn p,.int r,.int w]/\G p=some (.dct (BB k k))/\w≤8/\R (.str (Bh (A5 k w r))) G
def Dw:SpD:=fun ds G R=>∃(k:Lay) (h w:Nat),ds=[lay k]/\(AM k).Nodup/\k.length≤1000/\BX k h w/\R (.str (Bh (Ag k h w))) G
def Hy:SpD:=fun ds G R=>∃x:Str,ds=[.str x]/\x.length≤1000/\R (lay (Ah ((Txt.split x (chr 10)).map fun p=>p.cps.toList))) G
theorem C8 (k:Lay) (h w:Nat):(Ag k h w).length=h*(w+1):=by
 unfold Ag
 rw [List.length_flatMap]
 have:(fun r=>(A5 k w r++[10]).length)=fun _=>w+1:=by
  funext r
  simp [A5]
 rw [this]
 induction h with
 |zero=>simp
 |succ n ih=>rw [List.range_succ,List.map_append,List.sum_append,ih];simp [Nat.succ_mul]
theorem J8 (k l:Lay) (y:Sq):A2 (BB k l) (sq y)=if y∈AM l then some (.str (chr (sgn k y)))else none:=Nz (AM l) (fun q=>.str (chr (sgn k q))) y
theorem Ob (k:Lay) (y:Sq):(A2 (BB k k) (sq y)).getD (.str (chr 46))=.str (chr (sgn k y)):=by
 rw [J8]
 split
 ·rfl
 ·rename_i h;rw [VS h];rfl
theorem Bv (k l:Lay):(BB k l).map (·.1)=(AM l).map sq:=by
 unfold BB
 rw [List.map_map]
 rfl
theorem MK {k l:Lay} {s:Ck} (nd:(AM (l++[s])).Nodup) (a b:Nat) (ha:sgn k s.1=a) (hb:sgn k s.2=b):GO (GO (BB k l) (sq s.1) (.str (chr a))) (sq s.2) (.str (chr b))=BB k (l++[s]):=by
 have e:AM (l++[s])=AM l++[s.1,s.2]:=by unfold AM;rw [List.flatMap_append];rfl
 rw [e,List.nodup_append]at nd
 obtain ⟨_,n2,n3⟩:=nd
 have h1:s.1∉AM l:=fun h=>n3 _ h _ (by simp) rfl
 have h2:s.2∉AM l:=fun h=>n3 _ h _ (by simp) rfl
 have h3:s.1≠s.2:=by
  rw [List.nodup_cons]at n2
  simpa using n2.1
 rw [PV (kvs:=BB k l) (by rw [J8,if_neg h1]),<-ha]
 have e1:BB k l++[(sq s.1,.str (chr (sgn k s.1)))]=(AM l++[s.1]).map fun q=>(sq q,Dat.str (chr (sgn k q))):=by rw [List.map_append];rfl
 rw [e1,PV (by rw [Nz (AM l++[s.1]) (fun q=>.str (chr (sgn k q))),if_neg (by simp;exact ⟨h2,fun q=>h3 q.symm⟩)]),<-hb]
 unfold BB
 rw [e]
 simp
theorem Ph (ss:List Str):Txt.join (Str.ofString "") ss=Bh (ss.map fun p=>p.cps.toList).flatten:=by
 refine Hb ?_
 show (Builtin.Str.glued (Str.ofString "") ss).cps.toList=_
 rw [StrLaws.glued_eq_join,OB]
 rfl
theorem Wm (ss:List Str) (h:(ss.map (·.length)).sum≤5000):JoinOk (Str.ofString "") ss=true:=by
 unfold JoinOk
 rw [StrLaws.joinTotal]
 have:(Str.ofString "").length=0:=by decide +kernel
 rw [this]
 unfold Builtin.Str.tooLong
 have:=sz h
 simp
 lia
theorem PZ (kvs:List (Dat×Dat)) (k v:Dat):(GO kvs k v).length≤kvs.length+1:=by
 unfold GO
 split
 ·simp
 ·simp
theorem Sb {l m:Lay} (h:l.Sublist m):(AM l).Sublist (AM m):=by
 induction h with
 |slnil=>exact List.Sublist.refl _
 |cons a h ih=>rw [EA];exact (ih.cons _).cons _
 |cons_cons a h ih=>rw [EA,EA];exact (ih.cons_cons _).cons_cons _
theorem Vs (l:List Nat):((l.map chr).map (·.length)).sum=l.length:=by
 induction l with
 |nil=>rfl
 |cons a l ih=>rw [List.map_cons,List.map_cons,List.sum_cons,ih,List.length_cons,show (chr a).length=1 from rfl];lia
theorem Th {X:Cx} {ρ:Rho} {G:Gs} {a:Expr} {l:List Dat} {pos pp:Pos} {p:Addr} (hG:G p=some (.lst l)) (hg:Gl X "tuple") (hm:X.mg "tuple"=none) (hv:bootBuiltins "tuple"=some (.type "tuple")) (ha:PX X ρ G a (.fn p)) (he:starEach [a] X.env=(false,eval a X.env)::starEach [] X.env:=by rfl):PX X ρ G (.Call (.Name "tuple" pp) [a] [] pos) (.tup l):=
 Fv Ge hg hm hv ha (fun H x Q o r k=>by
  obtain ⟨vs,h1,r1⟩:=o p _ hG
  cases (show x=V.ref p from r)
  exact ⟨p,vs,rfl,.inl ⟨SqL.of h1,fun t ht=>k _ _ (Jn o ht r1)⟩⟩) (he:=he)
theorem J7 (a:List (List Nat)) (b:List Nat):Ah (a++[b])=Ah a++GW a.length b:=by
 unfold Ah
 rw [List.length_append,List.length_singleton,List.range_succ,List.flatMap_append]
 congr 1
 ·rw [List.flatMap_def,List.flatMap_def]
  congr 1
  refine List.map_congr_left fun i hi=>?_
  have MN:i<a.length:=by simpa using hi
  rw [List.getD_eq_getElem?_getD,List.getD_eq_getElem?_getD,List.getElem?_append_left MN]
 ·simp
def GS (i:Nat) (cs:List Nat) (n:Nat):Lay:=(List.range n).flatMap fun j=>CJ i j cs[j]?
theorem Kw (i:Nat) (cs:List Nat) (n:Nat):GS i cs (n+1)=GS i cs n++CJ i n cs[n]?:=by
 unfold GS
 rw [List.range_succ,List.flatMap_append]
 simp
theorem MJ (i:Nat) (cs:List Nat) (n:Nat):(GS i cs n).length≤n:=by
 induction n with
 |zero=>simp [GS]
 |succ n ih=>
  rw [Kw,List.length_append]
  have:(CJ i n cs[n]?).length≤1:=by
   unfold CJ
   split
   ·simp
   ·split<;>simp
  lia
theorem JO (ls:List (List Nat)):∀n,(Ah (ls.take n)).length≤((ls.take n).map List.length).sum
 |0=>by simp [Ah]
 |n+1=>by
  have ih:=JO ls n
  rw [List.take_add_one]
  cases h:ls[n]? with
  |none=>simpa using ih
  |some b=>
   rw [Option.toList_some,J7,List.length_append,List.map_append,List.sum_append]
   have:=MJ (ls.take n).length b b.length
   unfold GS at this
   unfold GW
   simp at this ih ⊢
   lia
theorem Kg (ls:List (List Nat)):(Ah ls).length≤(ls.map List.length).sum:=by
 have:=JO ls ls.length
 rwa [List.take_length]at this
theorem VF:∀ps:List (List Nat),(ps.map List.length).sum≤(jn ps).length
 |[]=>by simp [jn]
 |[a]=>by simp [jn]
 |a::b::r=>by
  have:=VF (b::r)
  show _≤(a++10::jn (b::r)).length
  rw [List.length_append,List.length_cons,List.map_cons,List.sum_cons]
  lia
theorem MP (x:Str):(((Txt.split x (chr 10)).map fun p=>p.cps.toList).map List.length).sum≤x.length:=by
 have h:=VF ((Txt.split x (chr 10)).map fun p=>p.cps.toList)
 rw [<-Jh,show (⟨#[10]⟩:Str)=chr 10 from rfl,StrLaws.join_split]at h
 exact h
theorem VY {i:Nat} {ls:List (List Nat)} {c:List Nat} (h:ls[i]?=some c):((ls.take i).map List.length).sum+c.length≤(ls.map List.length).sum:=by
 have e:ls.take (i+1)=ls.take i++[c]:=by rw [List.take_add_one,h];rfl
 have e2:(ls.map List.length).sum=((ls.take (i+1)).map List.length).sum+((ls.drop (i+1)).map List.length).sum:=by
  rw [<-List.sum_append,<-List.map_append,List.take_append_drop]
 rw [e2,e,List.map_append,List.sum_append]
 simp
theorem NK (c d:Nat):(chr c==chr d)=decide (c=d):=by
 rw [Bool.eq_iff_iff,beq_iff_eq,decide_eq_true_eq]
 constructor
 ·intro h
  unfold chr at h
  injection h with h
  simpa using h
 ·rintro rfl;rfl
section
variable {X:Cx}{pins:List (Addr×Obj)}{σ:St}{H1 H':Hp}{s1 s':Shared}
theorem Xl (I:Inv X pins σ H1 s1) (hx:X.ex=[]) (IF:X.env.frame=some X.env.locals) {ea:Addr} {cls a0:Value} {B h':Heap} (f0:s'.heap.FunFrames B (X.env::X.outer)) (f2:HOk X.prog X.w H' B)
  (f3:∀b o,s1.heap.get? b=some o->H1 b=none->b∉frs (X.env::X.outer)->B.get? b=some o) (f4:∀b o,s1.heap.get? b=some o->b∉frs (X.env::X.outer)->∃o',B.get? b=some o') (Xa:Un (frs (X.env::X.outer)) [] H1 H' s1.heap s'.heap) (free:H' ea=none)
  (g1:Heap.FlyingW B X.outer ea cls a0 h') (up:s'.heap.UpToSlots h'):Fly X.prog X.w X.outer X.H₀ X.s₀.heap H' h' ea cls:=by
 have cc:frs (X.env::X.outer)=X.env.locals::frs X.outer:=Kv IF
 have Wt:∀b o,X.s₀.heap.get? b=some o->b≠X.env.locals:=fun b o e=>Nat.ne_of_lt (Nat.lt_of_lt_of_le (Heap.lt_size e) I.ok.above)
 have Sm:∀b o,X.s₀.heap.get? b=some o->b∉frs X.outer->b∉frs (X.env::X.outer):=fun b o e hb JP=>by
  rw [cc]at JP
  rcases List.mem_cons.mp JP with z|z
  ·exact Wt b o e z
  ·exact hb z
 have base:=I.base
 rw [hx]at base
 have xS:Un X.fs [] X.H₀ H' X.s₀.heap s'.heap:=by
  refine ⟨fun b o q n hb hc=>?_,fun b o q n hb hc=>?_,fun b o q n hc=>?_,fun b o q hc=>?_,fun b xs q=>Xa.tups b xs (base.tups b xs q),fun b o u q=>Xa.frzs b o u (base.frzs b o u q),fun b ps q=>?_⟩
  ·exact Xa.keep b o (base.keep b o q n hb hc) (base.free b o q n hc) (Sm b o q hb) hc
  ·obtain ⟨sl,e1⟩:=base.slot b o q n hb hc
   obtain ⟨fT,e2⟩:=Xa.slot b _ e1 (base.free b o q n hc) (by rw [cc];exact List.mem_cons_of_mem _ hb) hc
   exact ⟨fT,e2⟩
  ·obtain ⟨o',e1⟩:=base.there b o q hc
   exact Xa.free b o' e1 (base.free b o q n hc) hc
  ·obtain ⟨o',e1⟩:=base.there b o q hc
   exact Xa.there b o' e1 hc
  ·obtain ⟨m1,e1⟩:=base.tbls b ps q
   obtain ⟨m2,e2⟩:=Xa.tbls b _ e1
   exact ⟨m1++m2,by rw [e2,Array.append_assoc]⟩
 refine Fly.step xS free f2 (fun b o q n hb=>?_) (fun b o q hb=>?_) (outer0:=X.env::X.outer) f0 (fun b hb=>by rw [cc];exact List.mem_cons_of_mem _ hb) g1 up
 ·exact f3 b o (base.keep b o q n hb (by simp)) (base.free b o q n (by simp)) (Sm b o q hb)
 ·obtain ⟨o',e1⟩:=base.there b o q (by simp)
  exact f4 b o' e1 (Sm b o q hb)
end
end TF
namespace TF
open PySem
structure MadeR (h h':Heap) (e:Addr) (cls:Value):Prop where
 keeps:∀b o,h.get? b=some o->h'.get? b=some o
 new:h.get? e=none
 there:∃oe vs t,h'.get? e=some oe/\oe.cls=cls/\oe.data=.fields vs/\vs[0]?=some (.ref t)/\vs[1]?=some .none
theorem Lf:entryFor table "proto.unchain"=some Builtin.«proto.unchain»:=entryFor_of_tree (by kernel_rfl)
section
variable {prog:Program}{w:World}{A:Around}{E:Value->Shared->Prop}{s:Shared}{env:Env}
variable {nm q:Str}{C N:Addr}{bs bm IS:List Value}{hdct:Bool}{sn:List Str}{sub:List Value}{ab:Bool}{col:Option Bool}{dd:Option Addr}{k0 k1 k2 k3 k5:Option Value}{B newId Qh:String}
theorem OY {α:Type} {e ea:Addr} {oe:Obj} {vs:Array Value} {Q:α->Shared->Prop} (hh:A.handled=some (.ref ea)) (Co:ea≠e) (bg:Clr s.heap ea) (he:s.heap.get? e=some oe) (hd:oe.data=.fields vs) (hz:2<vs.size)
  (h:E (.ref e) { s with heap:=s.heap.update e (Obj.mapFields (·.setIfInBounds 2 (.ref ea))) }):wpAny (model prog w) A (raiseNew (.ref e):Sem α) Q E s:=by
 obtain ⟨o1,v1,g1,g2,g3⟩:=bg
 unfold raiseNew
 refine wpAny_bind (wpAny_handled ?_)
 rw [hh]
 dsimp only
 rw [if_pos (show (Value.ref ea != Value.ref e)=true by simpa using Co)]
 refine wpAny_bind (wpAny_holding (wpAny_runValue (codeAny_builtin Lf ?_)))
 unfold Builtin.«proto.unchain»
 dsimp only
 refine wpAny_bind (wpAny_field g1 g2 g3 ?_)
 rw [if_pos (by decide)]
 refine wpAny_pure ?_
 exact wpAny_bind (wpAny_setField he hd hz (wpAny_throw h))
theorem Ky {ea:Addr} {x c:Sem Value} {Q:Flow->Shared->Prop} (C6:bm.contains (.type "BaseException")=true) (hh:A.handled=some (.ref ea)) (hc:∀{Q':Value->Shared->Prop} {s':Shared},Q' .none s'->wpAny (model prog w) A c Q' E s')
  (h:wpAny (model prog w) A x (fun v s₁=>∃e t,v=.ref e/\ea≠e/\Clr s₁.heap ea/\s₁.heap.get? C=some (excClassObj nm q C N bs bm hdct sn sub ab col dd k0 k1 k2 k3 k5 newId) ∧
   s₁.heap.get? e=some { cls:=.ref C,data:=.fields #[.ref t,.none,.none,.none,.bool false,.none] } ∧
   ∀h',(∀b,b≠e->h'.get? b=s₁.heap.get? b)->(∃oe vs,h'.get? e=some oe/\oe.cls=.ref C/\oe.data=.fields vs/\vs[0]?=some (.ref t)/\vs[1]?=some .none)->E (.ref e) { s₁ with heap:=h' }) E s) :
  wpAny (model prog w) A (raiseStmt env (some x) (some c)) Q E s:=by
 have cT:(Value.ref C::bm).contains (.type "BaseException")=true:=by rw [List.contains_cons,C6,Bool.or_true]
 unfold raiseStmt
 refine wpAny_bind (wpAny_mono h (fun v s₁ h₁=>?_) fun _ _ x=>x)
 obtain ⟨e,t,rfl,Co,bg,hC,he,hE⟩:=h₁
 obtain ⟨hp,g,d,tk,os⟩:=s₁
 dsimp only
 refine wpAny_bind (wpAny_holding (hc (wpAny_bind (wpAny_pure ?_))))
 have oo:e≠C:=fun z=>by rw [z]at he;rw [he]at hC;cases hC
 have hx:∀{Q':Value->Shared->Prop},Q' (.ref e) ⟨hp,g,d,tk,os⟩->wpAny (model prog w) A (excFromValue (.ref e) "exceptions must derive from BaseException") Q' E ⟨hp,g,d,tk,os⟩:=fun hq=>by
  unfold excFromValue
  repeat (first|with_reducible refine wpAny_loadPart_at he ?_|with_reducible refine wpAny_loadPart_at hC ?_|(with_reducible refine wpAny_isSubtype_exc hC ?_;rw [cT])|wp_step)
  exact hq
 refine wpAny_bind (wpAny_holding (hx ?_))
 dsimp only
 rw [if_pos (by decide)]
 refine wpAny_bind (wpAny_pure (wpAny_bind (wpAny_setField he rfl (show 3<6 by decide) ?_)))
 have iJ:=Heap.get?_update_self (Obj.mapFields (·.setIfInBounds 3 Value.none)) he rfl
 refine wpAny_bind (wpAny_setField iJ rfl (show 4<6 by decide) ?_)
 have he2:=Heap.get?_update_self (Obj.mapFields (·.setIfInBounds 4 (Value.bool true))) iJ rfl
 have Qx:∀b,b≠e->((hp.update e (Obj.mapFields (·.setIfInBounds 3 Value.none))).update e (Obj.mapFields (·.setIfInBounds 4 (Value.bool true)))).get? b=hp.get? b:=fun b hb=>
  (Heap.get?_update_other _ _ (Ne.symm hb)).trans (Heap.get?_update_other _ _ (Ne.symm hb))
 generalize ((hp.update e (Obj.mapFields (·.setIfInBounds 3 Value.none))).update e (Obj.mapFields (·.setIfInBounds 4 (Value.bool true))))=Nu at he2 Qx
 have rM:=(Qx C (Ne.symm oo)).trans hC
 have gP:Nu.get? e=some { cls:=.ref C,data:=.fields #[.ref t,.none,.none,.none,.bool true,.none] }:=he2
 repeat (first|with_reducible refine wpAny_loadPart_at gP ?_|with_reducible refine wpAny_loadPart_at rM ?_|(with_reducible refine wpAny_isSubtype_exc rM ?_;rw [cT])|wp_step)
 have yX:Clr Nu ea:=by
  obtain ⟨o1,v1,g1,g2⟩:=bg
  exact ⟨o1,v1,(Qx ea Co).trans g1,g2⟩
 refine OY (s:=⟨Nu,g,d,tk,os⟩) hh Co yX gP rfl (show 2<6 by decide) (hE _ (fun b hb=>(Heap.get?_update_other _ _ (Ne.symm hb)).trans (Qx b hb)) ⟨_,_,Heap.get?_update_self _ gP rfl,rfl,rfl,rfl,rfl⟩)
theorem Qu {ea:Addr} (F:ExcBaseFacts B newId Qh IS) {mN:Str->Option Value} {x:Str} {np Ae pos p2:Pos} {j:Nat} {args:List Expr} {Q:Flow->Shared->Prop}
  (C6:bm.contains (.type "BaseException")=true) (hh:A.handled=some (.ref ea)) (K5:(backTo Ae (starEach args env)).any (·.1)=false) (xO:mN "__init__"=none)
  (h:wpAny (model prog w) A (eval (.Name x np) env) (fun f s₁=>f=.ref C/\wpAny (model prog w) A (evalArgs (.ref C) true (backTo Ae (starEach args env)) [])
   (fun a s₂=>a.kw=[]/\a.pos.length≤sizeLine/\s₂.heap.get? C=some (excClassObj nm q C N bs bm hdct sn sub ab col dd k0 k1 k2 k3 k5 newId)/\s₂.heap.Ns N mN/\OwnTail s₂.heap IS bm/\Clr s₂.heap ea ∧
    ∀h' e,MadeR s₂.heap h' e (.ref C)->E (.ref e) { s₂ with heap:=h' }) E s₁) E s) :
  wpAny (model prog w) A (exec (.Raise (some (.Call (.Name x np) args [] Ae)) (some (.Constant .none j p2)) pos) env) Q E s:=by
 rw [arm_exec_Raise]
 refine wpAny_bind (wpAny_standAt (Ky (C:=C) (nm:=nm) (q:=q) (N:=N) (bs:=bs) (bm:=bm) (hdct:=hdct) (sn:=sn) (sub:=sub) (ab:=ab) (col:=col) (dd:=dd) (k0:=k0) (k1:=k1) (k2:=k2) (k3:=k3) (k5:=k5) (newId:=newId) (ea:=ea) C6 hh (fun {Q'} {s'} hq=>?_) ?_))
 ·exact wpAny_bind (PyProof.Rows.Constant_none (wpAny_bind (wpAny_standAt (wpAny_pure hq))))
 refine wpAny_bind (wpAny_mono (wpAny_Call_ofName (wpAny_mono h (fun f s₁ h₁=>?_) fun _ _ x=>x)) (fun v s₃ h₃=>wpAny_bind (wpAny_standAt (wpAny_pure h₃))) fun _ _ x=>x)
 obtain ⟨rfl,h₁⟩:=h₁
 unfold callWith
 refine wpAny_bind (wpAny_holding (wpAny_mono h₁ (fun a s₂ h₂=>wpAny_bind (wpAny_standAt ?_)) fun _ _ x=>x))
 obtain ⟨apos,uH⟩:=a
 obtain ⟨tE,hlen,hC,hn,T,bg,h₂⟩:=h₂
 obtain rfl:uH=[]:=tE
 obtain ⟨hp,g,d,tk,os⟩:=s₂
 simp only [K5]
 refine wpAny_bind (wpAny_keeperOf_exc hC ?_)
 refine wpAny_bind (wpAny_call_exc_subT (hrest:=hlen) F T hC hn xO fun h' e hm=>wpAny_bind (wpAny_holding (wpAny_point (wpAny_pure ?_))))
 obtain ⟨t,ht,_,_⟩:=hm.there
 obtain ⟨o1,v1,g1,g2⟩:=bg
 refine ⟨e,t,rfl,fun z=>?_,⟨o1,v1,hm.keeps _ _ g1,g2⟩,hm.keeps _ _ hC,ht,fun h2 hk uv=>h₂ h2 e ⟨fun b o hb=>(hk b fun z=>?_).trans (hm.keeps _ _ hb),hm.new,?_⟩⟩
 ·have:=hm.new
  rw [<-z]at this
  rw [this]at g1
  cases g1
 ·have:=hm.new
  rw [<-z,hb]at this
  cases this
 ·obtain ⟨oe,vs,y1,y2,y3,y4,y5⟩:=uv
  exact ⟨oe,vs,t,y1,y2,y3,y4,y5⟩
end
end TF
namespace TF
open PySem PySem.Spec L2
open PyProof.Rows hiding St RelV
def FXC (X:Cx) (pins:List (Addr×Obj)) (σ:St) (H:Hp) (G:Gs) (RX:Value->Gs->Prop) (e:Value) (s':Shared):Prop:=
 ∃ea cls s1 H1 H' G',e=.ref ea/\Inv X pins σ H1 s1/\s'.os=s1.os/\AllBare s'.gens/\Fly X.prog X.w X.stack H1 s1.heap H' s'.heap ea cls/\Clr s'.heap ea/\Ext H G H' G'/\GOk X.K H' G'/\RX cls G'
def d6 (X:Cx) (ρ:Rho) (G:Gs) (e:Expr) (Q:Dat->Gs->Prop) (RX:Value->Gs->Prop):Prop:=
 ∀(pins:List (Addr×Obj)) (s:Shared) (σ:St) (H:Hp),Inv X pins σ H s->Stt X H σ ρ G->wpAny (model X.prog X.w) X.A (eval e X.env) (EP X pins σ (Po X H G Q)) (FXC X pins σ H G RX) s
structure FlyH (P:Program) (w:World) (outer:List Env) (H:Hp) (h:Heap) (H':Hp) (h':Heap) (ea:Addr) (cls:Value) (L:Addr):Prop where
 ex:∃a0 B,Heap.HeldW B outer ea cls a0 L h'/\HOk P w H' B/\(∀b o,h.get? b=some o->H b=none->b∉frs outer->B.get? b=some o)/\∀b o,h.get? b=some o->b∉frs outer->∃o',B.get? b=some o'
 un:Un (frs outer) [] H H' h h'
 free:H' ea=none
def XYP (X:Cx) (pins:List (Addr×Obj)) (H:Hp) (G:Gs) (RX:Value->Gs->Prop) (e:Value) (s':Shared):Prop:=XPr X pins H G RX e s' ∨
 ∃ea cls σ' s1 H1 H' G',e=.ref ea/\Inv X pins σ' H1 s1/\s'.os=s1.os/\AllBare s'.gens/\FlyH X.prog X.w X.stack H1 s1.heap H' s'.heap ea cls X.env.locals/\Ext H G H' G'/\GOk X.K H' G'/\RX cls G'
theorem XYP.trans {X:Cx} {pins:List (Addr×Obj)} {H H1:Hp} {G G1:Gs} {RX:Value->Gs->Prop} {e:Value} {s':Shared} (x:Ext H G H1 G1) (h:XYP X pins H1 G1 RX e s'):XYP X pins H G RX e s':=by
 rcases h with h|⟨ea,cls,σ',s1,H2,H',G',a,b,c,d,f,g,o⟩
 ·exact .inl (XPr.trans x h)
 ·exact .inr ⟨ea,cls,σ',s1,H2,H',G',a,b,c,d,f,x.trans g,o⟩
def Hz (X:Cx) (ρ:Rho) (G:Gs) (st:List Stmt) (D:DE) (RX:Value->Gs->Prop):Prop:=
 ∀(pins:List (Addr×Obj)) (s:Shared) (σ:St) (H:Hp),Inv X pins σ H s->Stt X H σ ρ G->wpAny (model X.prog X.w) X.A (execs st X.env) (SP X pins (En X H G D)) (XYP X pins H G RX) s
section
variable {X:Cx}{ρ:Rho}{G:Gs}{D:DE}{RX RC:Value->Gs->Prop}{st:Stmt}{rest:List Stmt}{c e:Expr}{es:List Expr}{ds:List Dat}{pos p:Pos}{S:SpX}{k:Nat}{ps:List Str}{x:Str}{Q:Dat->Gs->Prop}
theorem YT (hx:X.xe=fun _ _=>False) (F:DfC X.prog X.w X.K X.mg X.base x ps k S) (hr:Room k X.A) (ha:PXs X ρ G (e::es) ds) (hS:S ds G Q RX) (hg:Gl X x:=by rfl)
  (E8:(x==("__debug__":Str))=false:=by decide) (he:starEach (e::es) X.env=(false,eval e X.env)::starEach es X.env:=by rfl) (hpl:(backTo pos (starEach es X.env)).any (·.1)=false:=by rfl):d6 X ρ G (.Call (.Name x p) (e::es) [] pos) Q RX:=by
 obtain ⟨f,fd,F,hm,hk,hb⟩:=F.ex
 intro pins s σ H I S0
 refine wpAny_Call_Name_kw (Du I hg hm ?_ E8)
 have h1:=ha pos pins s σ H I S0
 rw [hx]at h1
 refine PySem.W.callWith_K (h₀:=X.base) I.ok.mod.kin hk (wpAny_mono h1 (fun us s1 ⟨vs,H1,I1,rv,d',G1,e1,o1,rep,q1,q2⟩=>⟨I1.kIn,?_⟩) fun _ _ z=>z.elim) he hpl
 subst q1
 subst q2
 have RO:JM X.K S vs H1 (Po X H G1 Q) (fun cls dx H'=>∃G',Ext H1 G1 H' G'/\GOk X.K H' G'/\RX cls G'):=⟨d',G1,Q,RX,o1,rep,hS,fun v H' d G' e' o' r' q'=>⟨d,G',e1.trans e',o',r',q'⟩,fun cls H' G' e' o' q'=>⟨G',e',o',q'⟩⟩
 have hl:us.length=ps.length:=by rw [<-rv.length];exact F.len _ _ _ _ RO
 refine wpAny_call (codeAny_mono (F.run X.A X.stack s1 H1 ⟨us,[]⟩ us vs _ _ hr I1.env0 (by have:=hb s1 us I1.kIn (by rw [List.append_nil];exact hl);rw [List.append_nil]at this;exact this) rv RO) fun r s' hq=>?_)
 cases r with
 |error er=>
  obtain ⟨ea,cls,H',rfl,h3,h4,Ke,bg,G',e',o',q'⟩:=hq
  exact ⟨ea,cls,s1,H1,H',G',rfl,I1,h3,h4,Ke,bg,e1.trans e',o',q'⟩
 |ok fl=>
  cases fl with
  |ret u=>exact I1.after hq
  |next=>exact False.elim hq
  |brk=>exact False.elim hq
  |cont=>exact False.elim hq
theorem YB {l:List Stmt} (h:K2 X ρ G l D RX):Hz X ρ G l D RX:=fun pins s σ H I S=>wpAny_mono (h pins s σ H I S) (fun _ _ z=>z) fun _ _ z=>.inl z
theorem SK (h:∀(pins:List (Addr×Obj)) (s:Shared) (σ:St) (H:Hp),Inv X pins σ H s->Stt X H σ ρ G->wpAny (model X.prog X.w) X.A (exec st X.env) (SP X pins (En X H G { D with nx:=fun ρ' G'=>Hz X ρ' G' rest D RX })) (XYP X pins H G RX) s):Hz X ρ G (st::rest) D RX:=by
 intro pins s σ H I S
 refine wpAny_execs_cons (thn (h pins s σ H I S) fun f s1 q=>?_)
 cases f with
 |next=>
  obtain ⟨σ',H',I',ρ',G',e',S',q⟩:=q
  exact wpAny_mono (q pins s1 σ' H' I' S') (fun _ _ z=>SP.trans e' z) (fun _ _ z=>XYP.trans e' z)
 |ret v=>exact q
 |brk=>exact q
 |cont=>exact q
theorem Ti (h:WS X ρ G st { D with nx:=fun ρ' G'=>Hz X ρ' G' rest D RX }) (hx:X.xe=fun _ _=>False):Hz X ρ G (st::rest) D RX:=SK fun pins s σ H I S=>by
 have h1:=h pins s σ H I S
 rw [hx]at h1
 exact wpAny_mono h1 (fun _ _ z=>z) fun _ _ z=>z.elim
theorem Su (i:Nat) {x:Str} {pos':Pos} (hN:X.N.Nodup) (h:WE X ρ G e fun d G'=>Hz X (ρ.set i (some d)) G' rest D RX) (wQ:X.xe=fun _ _=>False) (hi:X.N[i]?=some x:=by rfl) (hx:Loc X.env.scope x:=by first|exact Or.inl rfl|exact Or.inr rfl)
  (hs:swapsWith e (some (.Name x pos')) pos.line X.env=pure false:=by rfl) (hf:X.fn x=true\/X.env.scope.names.lookup x=some .local:=by first|exact .inl rfl|exact .inr rfl|assumption):Hz X ρ G (.Assign [.Name x pos'] e pos::rest) D RX:=
 Ti (OM (QI (i:=i) hN hi hx Ak hs hf) fun σ H S=>⟨ρ,G,_,h,S,fun v H' ⟨d,G',e',o',r',q'⟩=>⟨_,G',e',(S.ext e' o').set r',q'⟩⟩) wQ
theorem Rv {x:List Stmt} {b:Bool} (hc:PXT X ρ G c b) (ht:b=true->K2 X ρ G x { D with nx:=fun _ _=>False } RX) (hf:b=false->Hz X ρ G rest D RX) (hx:X.xe=fun _ _=>False):Hz X ρ G (.If c x [] pos::rest) D RX:=by
 intro pins s σ H I S
 have ZY:=hc pins s σ H I S
 rw [hx]at ZY
 refine wpAny_execs_cons (wpAny_If (wpAny_mono ZY (fun b' s1 ⟨H1,I1,G1,e1,o1,q1,q2⟩=>?_) fun _ _ z=>z.elim))
 subst q1;subst q2
 cases b' with
 |true=>
  rw [if_pos rfl]
  refine wpAny_mono (ht rfl pins s1 σ H1 I1 (S.ext e1 o1)) (fun f s2 z=>?_) fun _ _ z=>.inl (XPr.trans e1 z)
  cases f with
  |next=>obtain ⟨_,_,_,_,_,_,_,q⟩:=z;exact q.elim
  |ret v=>exact SP.trans (D:=D) e1 z
  |brk=>exact SP.trans (D:=D) e1 z
  |cont=>exact SP.trans (D:=D) e1 z
 |false=>
  rw [if_neg Bool.false_ne_true]
  exact wpAny_execs_nil (wpAny_mono (hf rfl pins s1 σ H1 I1 (S.ext e1 o1)) (fun _ _ z=>SP.trans e1 z) fun _ _ z=>XYP.trans e1 z)
end
section
variable {X:Cx}{ρ:Rho}{G:Gs}{RX RC:Value->Gs->Prop}{D:DE}{rest body GQ:List Stmt}{b₀:Stmt}{pos np Gx p':Pos}{cx:Str}
theorem YQ {pins:List (Addr×Obj)} {σ:St} {H1 H':Hp} {s1 s':Shared} {ea C Dc:Addr} {IS Hq:List Value} {newId CB DF W2:String} {Q:Flow->Shared->Prop} {E:Value->Shared->Prop}
  (D4:X.stack=X.env::X.outer) (IF:X.env.frame=some X.env.locals) (I1:Inv X pins σ H1 s1) (Ju:s'.os=s1.os) (EM:AllBare s'.gens) (Ke:Fly X.prog X.w X.stack H1 s1.heap H' s'.heap ea (.ref C)) (bg:Clr s'.heap ea)
  (hC:PySem.W.excIn X.K C IS newId=true) (hD:PySem.W.excIn X.K Dc Hq CB=true) (FD:ExcBaseFacts W2 CB DF Hq) (hu:Bi X.K C Dc=true) (hm:X.mg cx=some (.ref Dc)) (hg:Gl X cx) (E8:(cx==("__debug__":Str))=false)
  (k:∀h6 oe vs,Inv (Cx.mk' X ea) pins σ H' { s' with heap:=h6 }->h6.get? ea=some oe->oe.data=.fields vs->vs[2]?=some .none->H' ea=none →
   wpAny (model X.prog X.w) (X.A.mark (some (.ref ea))) (execs (b₀::GQ) X.env) Q (notedBy (model X.prog X.w) (X.A.mark (some (.ref ea))) X.env fun y s₂=>cameBackBy (model X.prog X.w) X.A X.env E y s₂) { s' with heap:=h6 }) :
  wpAny (model X.prog X.w) X.A (noteFrame (.ref ea) X.env) (fun _ s₂=>wpAny (model X.prog X.w) X.A (setFlight (.ref ea) none) (fun _ s₃=>wpAny (model X.prog X.w) X.A (handleBy (.ref ea) X.env [.ExceptHandler (some (.Name cx np)) none (b₀::GQ) Gx]) Q E s₃) E s₂) E s':=by
 obtain ⟨a0,B,fl,hB,c1,c2⟩:=Ke.ex
 have KL:=I1.ok.frames
 rw [D4]at fl KL
 refine Xw KL IF fl fun h4 held jG b4=>Nq (s:={ s' with heap:=h4 }) held.1 held.2.2.1 held.2.2.2 fun h5 l1 l2 l3 kl b5=>?_
 have ZK:Heap.FlyingW B (X.env::X.outer) ea (.ref C) a0 h5:=⟨l1,held.2.1,l2,l3⟩
 have Ni:Fly X.prog X.w X.stack H1 s1.heap H' h5 ea (.ref C):=by
  refine Fly.step Ke.un Ke.free hB c1 c2 (outer0:=X.stack) (by rw [D4];exact fl.2.2.1) (fun _ z=>z) (by rw [D4];exact ZK) (jG.trans kl)
 have I5:Inv X pins σ H' { s' with heap:=h5 }:=I1.call' (s':={ s' with heap:=h5 }) Ju Ni.un Ni.hok EM (by simp)
 obtain ⟨bm,N,nm,qn,bs,hdct,sn,sub,ab,col,dd,k0,k1,k2,k3,k5,mN,oC,oN,oi,tl,lC⟩:=EW I1.mod.kin hC
 obtain ⟨fH,N',kF,su,lI,Uc,oP,aJ,kZ,Zo,gQ,om,lK,lH,pj,nB,xG,oD,_,_,jZ,lD⟩:=EW I1.mod.kin hD
 obtain ⟨oe,U5,cP⟩:=ZK.there
 refine wpAny_handleBy_cons (codeAny_handlers_test (Du (X:=Cx.mk' X ea) (Ff I5 ea) hg hm ?_ E8)) (by intro z;cases z)
 have hq:=OG lC hu
 refine PH (I5.bk _ _ oC) (I5.bk _ _ oD) U5 cP (jZ.hasType FD.hasBase) ?_
 rw [hq]
 refine codeAny_handlers_suite (Nq (s:={ s' with heap:=h5 }) l1 l2 l3 fun h6 m1 m2 m3 nN b6=>?_)
 have gj:Heap.FlyingW B (X.env::X.outer) ea (.ref C) a0 h6:=⟨m1,held.2.1,m2,m3⟩
 have Qf:Fly X.prog X.w X.stack H1 s1.heap H' h6 ea (.ref C):=Fly.step Ni.un Ni.free hB c1 c2 (outer0:=X.stack) (by rw [D4];exact ZK.2.2.1) (fun _ z=>z) (by rw [D4];exact gj) nN
 have I6:Inv X pins σ H' { s' with heap:=h6 }:=I1.call' (s':={ s' with heap:=h6 }) Ju Qf.un Qf.hok EM (by simp)
 obtain ⟨o6,v6,z1,z2,z3⟩:=b6 (b5 (b4 bg))
 exact k h6 o6 v6 (Ff I6 ea) z1 z2 z3 Qf.free
theorem U1 {pins:List (Addr×Obj)} {σ:St} {H:Hp} {s:Shared} {ea:Addr} {oe:Obj} (ok:X.Ok) (I:Inv (Cx.sx X ea oe) pins σ H s):Inv X pins σ H s:=
 ⟨ok,I.os,I.bare,I.base,I.loc,I.cell,I.free,I.freeC,fun p hp=>I.pin p (List.mem_cons_of_mem _ hp),I.hok,I.len⟩
theorem Vo (i:Nat) {x rx:Str} {msg:Str} {c:Expr} {px rp tJ cp tS mp:Pos} {j1 j2:Nat} {Dc Cn:Addr} {Hq q6:List Value} {CB DF W2 dE dq BN:String} (D4:X.stack=X.env::X.outer) (IF:X.env.frame=some X.env.locals) (hN:X.N.Nodup)
  (hb:d6 X ρ G c (fun d G'=>Hz X (ρ.set i (some d)) G' rest D RX) RC)
  (hD:PySem.W.excIn X.K Dc Hq CB=true) (FD:ExcBaseFacts W2 CB DF Hq) (hm:X.mg cx=some (.ref Dc))
  (hn:PySem.W.excIn X.K Cn q6 dE=true) (FN:ExcBaseFacts BN dE dq q6) (vA:X.mg rx=some (.ref Cn))
  (hs:∀cls G',RC cls G'->∃C IS newId,cls=.ref C/\PySem.W.excIn X.K C IS newId=true/\Bi X.K C Dc=true/\RX (.ref Cn) G')
  (hi:X.N[i]?=some x:=by rfl) (hl:Loc X.env.scope x:=by first|exact Or.inl rfl|exact Or.inr rfl) (hw:swapsWith c (some (.Name x p')) px.line X.env=pure false:=by rfl) (hf:X.fn x=true\/X.env.scope.names.lookup x=some .local:=by first|exact .inl rfl|exact .inr rfl|assumption)
  (hg:Gl X cx:=by rfl) (E8:(cx==("__debug__":Str))=false:=by decide) (wB:Gl X rx:=by rfl) (mO:(rx==("__debug__":Str))=false:=by decide) :
  Hz X ρ G (.Try [.Assign [.Name x p'] c px] [.ExceptHandler (some (.Name cx np)) none [.Raise (some (.Call (.Name rx tJ) [.Constant (.str msg) j1 mp] [] cp)) (some (.Constant .none j2 tS)) rp] Gx] [] [] pos::rest) D RX:=SK fun pins s σ H I S=>by
 refine wpAny_Try_except (wpAny_execs_cons (wpAny_mono (wpAny_Assign_Name (E:=FXC X pins σ H G RC) (Q:=SP X pins (En X H G { D with nx:=fun ρ' G'=>Hz X ρ' G' rest D RX })) (thn (hb pins s σ H I S) fun v s1 ⟨y,H1,I1,r1,d',G1,e1,o1,r2,q1⟩=>HQ I1 hN hi hl r1 (fun s2 I2=>⟨_,H1,I2,_,G1,e1,(S.ext e1 o1).set r2,q1⟩) hf) hw) (fun f s1 z=>?_) fun e s' z=>?_))
 ·cases f with
  |next=>exact wpAny_execs_nil (wpAny_execs_nil z)
  |ret v=>exact z
  |brk=>exact z
  |cont=>exact z
 ·obtain ⟨ea,cls,s1,H1,H',G',rfl,I1,Ju,EM,Ke,bg,ex,go,gq⟩:=z
  obtain ⟨C,IS,newId,rfl,hC,hu,vU⟩:=hs cls G' gq
  refine YQ D4 IF I1 Ju EM Ke bg hC hD FD hu hm hg E8 fun h6 oe vs I6 g1 g2 g3 JL=>?_
  have I7:=Ub I6 g1 g2 JL
  have S5:=S.ext ex go
  have S7:Stt (Cx.sx X ea oe) H' σ ρ G':=⟨S5.env,S5.len,S5.own⟩
  obtain ⟨bm,N,nm,qn,bs,hdct,sn,sub,ab,col,dd,k0,k1,k2,k3,k5,mN,oC,oN,oi,tl,_⟩:=EW I1.mod.kin hn
  refine wpAny_execs_cons (Qu (ea:=ea) (C:=Cn) (nm:=nm) (q:=qn) (N:=N) (bs:=bs) (bm:=bm) (hdct:=hdct) (sn:=sn) (sub:=sub) (ab:=ab) (col:=col) (dd:=dd) (k0:=k0) (k1:=k1) (k2:=k2) (k3:=k3) (k5:=k5) FN (mN:=mN) (tl.hasType FN.hasBase) rfl rfl oi (Du (X:=Cx.sx X ea oe) I7 wB vA ⟨rfl,?_⟩ mO))
  have h1:=(AD (AU (X:=Cx.sx X ea oe) (ρ:=ρ) (G:=G') (x:=msg) (j:=j1) (pos:=mp)) AF) cp pins { s' with heap:=h6 } σ H' I7 S7
  refine Calls.evalArgs_plain (wpAny_mono h1 (fun us s2 ⟨LJ,H2,I2,rv,d',G2,e2,o2,rep,q1,q2⟩=>?_) fun _ _ z=>z.elim)
  subst q1
  subst q2
  have Nu:=I2.pin (ea,oe) (by simp)
  have J2:Inv X pins σ H2 s2:=U1 I.ok I2
  refine ⟨rfl,?_,I2.bk _ _ oC,oN.keeps I2.bk,tl.keeps I2.bk,⟨oe,vs,Nu.1,g2,g3⟩,fun h8 e8 cQ=>?_⟩
  ·have:us.length≤1000:=by rw [<-rv.length,rep.length];simp
   exact Nat.le_trans this (by rw [sizeLine_eq];decide)
  have stk:=J2.stack
  have free:=J2.stkFree
  have KL:=J2.ok.frames
  rw [D4]at stk KL free
  have Jt:∀env∈(X.env::X.outer),∀a,env.frame=some a->a∈(X.env::X.outer).filterMap (·.frame):=fun env he b hb=>List.mem_filterMap.mpr ⟨env,he,hb⟩
  have bz:=Nx J2.hok free
  have Nt:(PySem.W.hideAll s2.heap ((X.env::X.outer).filterMap (·.frame))).StaysIn s2.heap:=fun b o q=>PySem.W.of_hideAll _ q
  have fM:=PySem.W.funFrames_hide stk Jt
  obtain ⟨o8,v8,t8,y1,y2,y3,y4,y5⟩:=cQ.there
  have fresh:(PySem.W.hideAll s2.heap ((X.env::X.outer).filterMap (·.frame))).get? e8=none:=by
   cases hq:(PySem.W.hideAll s2.heap ((X.env::X.outer).filterMap (·.frame))).get? e8 with
   |none=>rfl
   |some o'=>have:=Nt e8 o' hq;rw [cQ.new]at this;cases this
  have cj:=fM.of_keeps (h':=h8) fun b o hb _=>⟨o,cQ.keeps b o hb,rfl⟩
  unfold notedBy
  refine KP (s:={ s2 with heap:=h8 }) (a0:=.ref t8) KL cj IF y1 (fun b o hb=>cQ.keeps b o (Nt b o hb)) fresh y3 y5 y4 fun h9 ⟨⟨n1,n2,n3,n4⟩,_⟩=>?_
  unfold cameBackBy
  obtain ⟨o9,v9,T9,oT,ts,m1,m2,m3,m4,m5⟩:=id n3
  refine wpAny_bind (wpAny_field (s:={ s2 with heap:=h9 }) m1 m3 m4 ?_)
  rw [if_neg (show ¬((Value.ref T9==Value.none)=true)from by simp)]
  have last:wpAny (model X.prog X.w) X.A (setFlight (.ref e8) X.env.frame) (fun _ ck=>XYP X pins H G RX (.ref e8) ck) (XYP X pins H G RX) { s2 with heap:=h9 }:=by
   refine Nq (s:={ s2 with heap:=h9 }) n1 n2 n3 fun zI p1 p2 p3 p4 _=>.inr ⟨e8,.ref Cn,σ,s2,H2,H2,G2,rfl,J2,rfl,J2.bare,⟨⟨.ref t8,_,⟨p1,fresh,?_,?_⟩,bz,fun b o q n hb=>?_,fun b o q hb=>?_⟩,?_,Sa J2.hok cQ.new⟩,ex.trans e2,o2,?_⟩
   ·rw [D4];exact p2
   ·rw [y2,IF]at p3;exact p3
   ·exact PySem.W.hideAll_get _ q (by rw [D4]at hb;exact hb)
   ·exact ⟨o,PySem.W.hideAll_get _ q (by rw [D4]at hb;exact hb)⟩
   ·rw [D4]
    exact Sf (Un.kept cQ.keeps) (fun b o q n hb=>PySem.W.hideAll_get _ q hb) (fun b o q hb=>⟨o,PySem.W.hideAll_get _ q hb⟩) cj (fun _ z=>z) p1 (Heap.UpToSlots.trans (fun b o q n=>n4 b o q n) p4)
   ·exact vU
  first
   |exact last
   |exact wpAny_bind (wpAny_pure last)
end
section
variable {P:Program}{w:World}{K:PySem.W.Frag}{mg:Str->Option Value}{base:Heap}
theorem gY {x qual:Str} {st:Stmt} {f:Addr} {fd:FuncData} {N ps:List Str} {k:Nat} {S:SpX} (F:Fun K x qual st f fd) (Sc:FnScope N ps (AB st)) (hlen:∀ds G R RX,S ds G R RX->ds.length=ps.length)
  (hb:∀(BO:Value) (A:Around) (outer:List Env) (s:Shared) (H:Hp) (E:XK) (ds:List Dat) (G:Gs) (R:Dat->Gs->Prop) (RX:Value->Gs->Prop),Room k (A.deeper (envOfC qual (AB st) s.heap.objs.size f BO))->S ds G R RX →
   Hz (El CX0 P w K mg base N qual (AB st) f BO A outer s H E).nox (G6 N ds) G (AH st) { nx:=fun _ G'=>R .non G',rt:=R } RX):FnOk P w K mg base (CXV P w) (k+1) f fd ps (JM K S):=by
 obtain ⟨oc,od,kV,doc,pm,an,BO,ct,Ws,rfl,lk,Qt⟩:=F.ex
 refine Vt lk Qt Sc (fun vs H Q E h=>?_) (fun A outer s H vs Q E hr h=>?_)
 ·obtain ⟨ds,G,R,RX,_,r,hS,_⟩:=h
  rw [r.length];exact hlen ds G R RX hS
 ·obtain ⟨ds,G,R,RX,o,r,hS,k1,k2⟩:=h
  refine ⟨fun D σ H1=>D={ nx:=fun _ H'=>Q .non H',rt:=Q }/\σ=start N vs/\H1=H,?_,rfl,rfl,rfl⟩
  intro pins s1 σ H1 D I hq
  obtain ⟨rfl,rfl,rfl⟩:=hq
  have hw:=hb BO A outer s H1 E ds G R RX hr hS pins s1 (start N vs) H1 (I.wish fun _ _=>False) (IT o r)
  refine wpAny_mono hw (fun fl s2 z=>?_) fun e s2 z=>?_
  ·refine SP.le (SP.unwish (X:=El (CXV P w) P w K mg base N qual (AB st) f BO A outer s H1 E) (E:=fun _ _=>False) z) (fun σ' H'=>?_) (fun v H'=>?_) (fun σ' H'=>?_) fun σ' H'=>?_
   ·rintro ⟨ρ',G',e',S',q⟩
    exact k1 .non H' .non G' e' S'.own rfl q
   ·rintro ⟨d,G',e',o',r',q⟩
    exact k1 v H' d G' e' o' r' q
   ·rintro ⟨_,_,_,_,q⟩;exact q
   ·rintro ⟨_,_,_,_,q⟩;exact q
  ·rcases z with ⟨ea,cls,args,σ',H',G',s3,h2,tk,rfl,rfl,I3,hm,ex,go,rx⟩|⟨ea,cls,σ',s3,H3,H',G',rfl,I3,Ju,EM,Ke,ex,go,rx⟩
   ·have J:Inv (El (CXV P w) P w K mg base N qual (AB st) f BO A outer s H1 E) pins σ' H' s3:=Inv.unwish (E:=fun _ _=>False) I3
    refine Ot (X:=El (CXV P w) P w K mg base N qual (AB st) f BO A outer s H1 E) J rfl rfl rfl hm fun h' Ke _=>?_
    exact ⟨ea,cls,H',rfl,J.os,J.bare,Ke,k2 cls H' G' ex go rx⟩
   ·have J:Inv (El (CXV P w) P w K mg base N qual (AB st) f BO A outer s H1 E) pins σ' H3 s3:=Inv.unwish (E:=fun _ _=>False) I3
    obtain ⟨⟨a0,B,f1,f2,f3,f4⟩,Xa,free⟩:=Ke
    refine wpAny_bind (wpAny_noteFrame_againW rfl f1.2.2.2 (wpAny_landsW f1 fun h' Wo up=>?_))
    exact ⟨ea,cls,H',rfl,Ju.trans J.os,EM,Xl (X:=El (CXV P w) P w K mg base N qual (AB st) f BO A outer s H1 E) J rfl rfl f1.2.2.1 f2 f3 f4 Xa free ⟨Wo.1,Wo.2.1,Wo.2.2.1.2.2,Wo.2.2.2⟩ up,k2 cls H' G' ex go rx⟩
end
theorem HB {α:Type} (f:α->Int):∀(l:List α),l≠[]->∃a∈l,∀b∈l,f b≤f a
 |[],h=>absurd rfl h
 |[a],_=>⟨a,by simp,by simp⟩
 |a::b::l,_=>by
  obtain ⟨m,hm,h⟩:=HB f (b::l) (by simp)
  by_cases M8:f m≤f a
  ·exact ⟨a,by simp,fun x hx=>by
    rcases List.mem_cons.mp hx with rfl|hx
    ·exact Int.le_refl _
    ·exact Int.le_trans (h x hx) M8⟩
  ·exact ⟨m,List.mem_cons_of_mem _ hm,fun x hx=>by
    rcases List.mem_cons.mp hx with rfl|hx
    ·lia
    ·exact h x hx⟩
theorem Y1 {F:List Sq} {k:Lay} (gd:Good F) (J:IsLay F k):∃h w,BX k h w:=by
 have Jt:∀p∈AM k,0≤p.1/\p.1≤7/\0≤p.2/\p.2≤7:=fun p hp=>gd.inn p (J.pm.mem_iff.mp hp)
 have Co:AM k≠[]:=fun e=>by
  have:=J.pm
  rw [e]at this
  exact gd.ne this.symm.eq_nil
 obtain ⟨a,ha,hA⟩:=HB (fun p:Sq=>p.1) _ Co
 obtain ⟨b,hb,hB⟩:=HB (fun p:Sq=>p.2) _ Co
 have h1:=Jt a ha
 have h2:=Jt b hb
 refine ⟨(a.1+1).toNat,(b.2+1).toNat,fun p hp=>?_,⟨a,ha,by lia⟩,⟨b,hb,by lia⟩,by lia⟩
 have h3:=Jt p hp
 have h4:=hA p hp
 have h5:=hB p hp
 lia
theorem ae {k:Lay} {h w h' w':Nat} (a:BX k h w) (b:BX k h' w'):h=h'/\w=w':=by
 obtain ⟨p,hp,e⟩:=a.hh
 obtain ⟨q,hq,e'⟩:=b.hh
 obtain ⟨r,hr,f⟩:=a.ww
 obtain ⟨t,ht,f'⟩:=b.ww
 have:=a.box q hq
 have:=b.box p hp
 have:=a.box t ht
 have:=b.box r hr
 lia
def isT (d:Dat):Prop:=∃(F:List Sq) (k:Lay) (h w:Nat),Good F/\IsLay F k/\BX k h w/\d=.str (Bh (Ag k h w))
def okT (d:Dat):Prop:=(∃t,tyS d=some t)/\∀x,d=.str x->x.length≤1000
def HP (B:Addr):SpX:=fun ds G R RX=>∃d:Dat,ds=[d]/\okT d/\(∀(F:List Sq) (k:Lay) (h w:Nat),Good F->IsLay F k->BX k h w->d=.str (Bh (Ag k h w))->R (.tup [fl F,lay k]) G)/\(¬isT d->RX (.ref B) G)
def IV (x:Str):List (List Nat):=(Txt.split x (chr 10)).map fun p=>p.cps.toList
theorem TU {F:List Sq} {k:Lay} {h w:Nat} (gd:Good F) (J:IsLay F k) (bx:BX k h w):Ah (IV (Bh (Ag k h w)))=k:=by
 unfold IV
 rw [show chr 10=(⟨#[10]⟩:Str)from rfl,J9 (k:=k) (h:=h) (w:=w) rfl]
 exact QX J gd.nodup fun p hp=>bx.box p (J.pm.mem_iff.mpr hp)
theorem QZ {F:List Sq} {ls:List (List Nat)} (pm:(AM (Ah ls)).Perm F):IsLay F (Ah ls):=by
 refine ⟨⟨fun s hs=>?_,pm⟩,Mb ls⟩
 obtain ⟨i,_,hs⟩:=KO.mp hs
 obtain ⟨j,_,hs⟩:=FW.mp hs
 obtain ⟨e,h⟩:=LC.mp hs
 obtain ⟨p,q⟩:=s
 simp only at e h
 subst e
 rcases h with ⟨_,rfl⟩|⟨_,rfl⟩
 ·exact ⟨.inr ⟨rfl,by simp only;lia⟩,by simp [nbM]⟩
 ·exact ⟨.inl (by simp only;lia),by simp [nbM]⟩
theorem Uh (x:Str):(Ah (IV x)).length≤x.length:=Nat.le_trans (Kg _) (MP x)
theorem Jd {d:Dat} (h:∀x,d≠.str x):¬isT d:=fun ⟨_,k,h',w,_,_,_,e⟩=>h _ e
theorem YN (k:Lay) (p:Sq):sgn k p=60\/sgn k p=94\/sgn k p=62\/sgn k p=118\/sgn k p=46:=by
 rcases Jc (k:=k) (p:=p) rfl with ⟨t,_,_,e⟩|⟨t,_,_,e⟩|e
 ·rw [e];unfold Dl;split<;>simp
 ·rw [e];unfold Dt;split<;>simp
 ·rw [e];simp
theorem Vd {k:Lay} (nd:(AM k).Nodup) {p:Sq} (h:p∈AM k):sgn k p≠46:=by
 obtain ⟨s,hs,e⟩:=DK.mp h
 rcases e with e|e
 ·rw [e,Ji nd hs];unfold Dl;split<;>decide
 ·rw [e,NJ nd hs];unfold Dt;split<;>decide
theorem MT (k:Lay) (h w:Nat):Ag k (h+1) w=Ag k h w++A5 k w h++[10]:=by
 unfold Ag
 rw [List.range_succ,List.flatMap_append]
 simp
theorem Gk (k:Lay) (h w:Nat):∃r,Ag k (h+1) w=A5 k w 0++10::r:=by
 unfold Ag
 rw [List.range_succ_eq_map,List.flatMap_cons]
 exact ⟨_,by rw [List.append_assoc];rfl⟩
theorem Ol (k:Lay) (w r:Nat):A5 k (w+1) r=A5 k w r++[sgn k ((r:Int),(w:Int))]:=by
 unfold A5
 rw [List.range_succ,List.map_append]
 rfl
theorem Sg (k:Lay) (w r:Nat):∃l,A5 k (w+1) r=sgn k ((r:Int),0)::l:=by
 unfold A5
 rw [List.range_succ_eq_map,List.map_cons]
 exact ⟨_,rfl⟩
theorem Ks {k:Lay} {h w:Nat} (bx:BX k h w):∃h' w',h=h'+1/\w=w'+1:=by
 obtain ⟨p,hp,_⟩:=bx.hh
 have:=bx.box p hp
 exact ⟨h-1,w-1,by lia,by lia⟩
theorem P4 {y:Str} (h:isT (.str y)):∃l c,y.cps.toList=l++[c,10]/\c≠10:=by
 obtain ⟨F,k,h,w,gd,J,bx,e⟩:=h
 injection e with e
 obtain ⟨h',w',rfl,rfl⟩:=Ks bx
 refine ⟨Ag k h' (w'+1)++A5 k w' h',sgn k ((h':Int),(w':Int)),?_,Ka _ _⟩
 rw [e,Ci,MT,Ol]
 simp
theorem Xg {y:Str} (h:isT (.str y)):∃k p l,y.cps.toList=sgn k p::l:=by
 obtain ⟨F,k,h,w,gd,J,bx,e⟩:=h
 injection e with e
 obtain ⟨h',w',rfl,rfl⟩:=Ks bx
 obtain ⟨r,e1⟩:=Gk k h' (w'+1)
 obtain ⟨l,e2⟩:=Sg k w' 0
 exact ⟨k,_,l++10::r,by rw [e,Ci,e1,e2];rfl⟩
theorem XB {y:Str} {l:List Nat} {c:Nat} (h:y.cps.toList=l++[c]) (hc:c≠10):¬isT (.str y):=fun t=>by
 obtain ⟨l',c',e,_⟩:=P4 t
 rw [h]at e
 have:l++[c]=(l'++[c'])++[10]:=by rw [e];simp
 exact hc (by simpa using (List.append_inj' this rfl).2)
theorem ar {y:Str} {l:List Nat} (h:y.cps.toList=l++[10,10]):¬isT (.str y):=fun t=>by
 obtain ⟨l',c',e,hc⟩:=P4 t
 rw [h]at e
 have:=(List.append_inj' e rfl).2
 simp at this
 exact hc this.symm
theorem Wl {y:Str} {l:List Nat} (h:y.cps.toList=32::l):¬isT (.str y):=fun t=>by
 obtain ⟨k,p,l',e⟩:=Xg t
 rw [h]at e
 injection e with e _
 have:=YN k p
 lia
theorem V2 {k:Lay} {h w:Nat} {p:Sq} (h1:0≤p.1/\p.1<h/\0≤p.2/\p.2<w):sgn k p∈Ag k h w:=by
 unfold Ag
 rw [List.mem_flatMap]
 refine ⟨p.1.toNat,by rw [List.mem_range];lia,List.mem_append_left _ ?_⟩
 unfold A5
 rw [List.mem_map]
 refine ⟨p.2.toNat,by rw [List.mem_range];lia,?_⟩
 rw [Int.toNat_of_nonneg h1.1,Int.toNat_of_nonneg h1.2.2.1]
theorem Je {y:Str} (h:∀c∈y.cps.toList,c=46\/c=10):¬isT (.str y):=by
 rintro ⟨F,k,h',w,gd,J,bx,e⟩
 injection e with e
 obtain ⟨p,hp,_⟩:=bx.hh
 have hm:=V2 (k:=k) (bx.box p hp)
 have nd:(AM k).Nodup:=J.pm.nodup_iff.mpr gd.nodup
 rw [<-Ci (Ag k h' w),<-e]at hm
 rcases h _ hm with q|q
 ·exact Vd nd hp q
 ·exact Ka _ _ q
theorem Yk {F:List Sq} {k:Lay} {h w:Nat} (gd:Good F) (J:IsLay F k) (bx:BX k h w) {y:Str} (e:y.cps.toList=Ag k h w++[46,10]):¬isT (.str y):=by
 rintro ⟨F2,k2,h2,w2,Pp,J2,UX,e2⟩
 injection e2 with e2
 rw [e2,Ci]at e
 obtain ⟨a,b,rfl,rfl⟩:=Ks bx
 obtain ⟨c,d,rfl,rfl⟩:=Ks UX
 obtain ⟨r,q1⟩:=Gk k a (b+1)
 obtain ⟨r2,q2⟩:=Gk k2 c (d+1)
 have hw:d=b:=by
  have z:A5 k2 (d+1) 0++10::r2=A5 k (b+1) 0++10::(r++[46,10]):=by rw [<-q2,e,q1];simp
  have:=congrArg List.length (SV (K6 _ _ _) (K6 _ _ _) z).1
  simpa [A5]using this
 subst hw
 have hl:=congrArg List.length e
 rw [C8,List.length_append,C8]at hl
 simp only [List.length_cons,List.length_nil]at hl
 have xE:c=a+1/\d=0:=by
  rcases Nat.lt_or_ge a c with q|q
  ·obtain ⟨t,rfl⟩:∃t,c=a+1+t:=⟨c-a-1,by lia⟩
   have z:(a+1+t+1)*(d+1+1)=(a+1)*(d+1+1)+(t+1)*(d+1+1):=by rw [<-Nat.add_mul];congr 1
   rw [z]at hl
   have z2:(t+1)*(d+1+1)=2:=by lia
   have z3:(t+1)*(d+1+1)=t*(d+2)+(d+2):=by rw [Nat.add_mul,Nat.one_mul]
   have:t*(d+2)≥t:=Nat.le_mul_of_pos_right _ (by lia)
   lia
  ·have:=Nat.mul_le_mul_right (d+1+1) (show c+1≤a+1 by lia)
   lia
 obtain ⟨rfl,rfl⟩:=xE
 rw [MT,List.append_assoc,show Ag k (a+1) (0+1)++[46,10]=Ag k (a+1) (0+1)++([46]++[10])from rfl]at e
 have e3:=(List.append_inj e (by rw [C8,C8])).2
 have e4:sgn k2 (((a+1:Nat):Int),((0:Nat):Int))=46:=by
  rw [Ol]at e3
  simpa [A5]using e3
 obtain ⟨p,hp,q⟩:=UX.hh
 have:=UX.box p hp
 have:p=(((a+1:Nat):Int),((0:Nat):Int)):=Prod.ext (by simp only;lia) (by simp only;lia)
 exact Vd (J2.pm.nodup_iff.mpr Pp.nodup) hp (by rw [this];exact e4)
theorem IK {y:Str} {m:Lay} (h:Ah (IV y)=m) (hm:¬(AM m).Nodup\/(∃p∈AM m,7<p.2)\/∃p∈AM m,(y.length:Int)<p.2+2):¬isT (.str y):=by
 rintro ⟨F,k,h',w,gd,J,bx,e⟩
 injection e with e
 have b:=TU gd J bx
 rw [<-e,h]at b
 subst b
 have nd:(AM m).Nodup:=J.pm.nodup_iff.mpr gd.nodup
 rcases hm with q|⟨p,hp,q⟩|⟨p,hp,q⟩
 ·exact q nd
 ·have:=bx.box p hp
  have:=bx.sm
  lia
 ·have b:=bx.box p hp
  rw [e,DU,C8]at q
  have:=Nat.mul_le_mul_right (w+1) (show 1≤h' by lia)
  lia
end TF
namespace TF
open PySem
theorem Tn:typeLookup (.type "list_reverseiterator") "__len__"=pure none:=by rw [typeLookup_type,builtinLookup_eq_fast];kernel_rfl
theorem Vq:typeLookup (.type "list_reverseiterator") "__length_hint__"=pure (some (.builtin "list_reverseiterator.__length_hint__")):=by rw [typeLookup_type,builtinLookup_eq_fast];kernel_rfl
section
variable {prog:Program}{w:World}{A:Around}{E:Value->Shared->Prop}{s:Shared}{R:Result->Shared->Prop}
variable {I:Addr}{fp wr:List Addr}{G:Array GenState->Array GenState->Prop}{n:Nat}{P:Nat->Value->Prop}{St:Nat->Shared->Prop}
theorem Q2 (W:WalksS prog w A.in1 I fp wr G n P St) (hT:∀i s,St i s->s.TypeIs (.ref I) "list_reverseiterator") (S:Addr) (res:Value) (c₀:Nat) (D4:St 0 s) (Pm:S∉fp) (hI:I∈fp)
  (hS:s.heap.get? S=some { cls:=.type "list",data:=.seq #[] c₀ })
  (hR:∀s' Cc c',Moved (S::wr) G s s'->s'.heap.get? S=some { cls:=.type "list",dict:=none,data:=.seq Cc c',slots:=#[] }->ItemsOf P Cc n->R (.ok (.ret res)) s') (hn:n≤sizeLine) :
  wpAny (model prog w) A.in1 (Builtin.List.listExtendWith (.ref S) (.ref I) res)
   (fun fin s'=>match fin with|.done f=>R (.ok f) s'|.again c'=>c'.quiet=true/\codeAny (model prog w) A c' R s') (fun e s'=>R (.error e) s') s:=by
 have UZ:S≠I:=fun e=>Pm (e▸hI)
 unfold Builtin.List.listExtendWith
 refine wpAny_bind (wpAny_typeOf (hT 0 _ D4) ?_)
 have h1:Builtin.List.listSameRef (.ref S) (.ref I)=false:=by simp [Builtin.List.listSameRef,UZ]
 rw [if_neg (by rw [h1];decide)]
 refine wpAny_bind (W.self 0 _ _ _ D4 ?_)
 refine wpAny_bind (wpAny_holding ?_)
 unfold Builtin.List.listLengthHint
 refine wpAny_bind (wpAny_specialOf (hT 0 _ D4) Tn ?_)
 show wpAny _ A.in1 (specialOf (Value.ref I) (Str.ofString "__length_hint__") >>= _) _ _ _
 refine wpAny_bind (wpAny_specialOf (hT 0 _ D4) Vq ?_)
 (generalize hid:("list_reverseiterator.__length_hint__":String)=id0;wp_delta;rw [show splitId id0=some ("list_reverseiterator","__length_hint__")from by subst hid;decide +kernel];subst hid)
 refine wpAny_bind (wpAny_isInstance (b:=true) (hT 0 _ D4) (by rw [isSubtype_type];kernel_rfl) ?_)
 refine wpAny_pure ?_
 rw [if_neg (by decide)]
 refine wpAny_pure ⟨plainId_quiet F.plain_extend_loop _,codeAny_extend_loopS W hn _ Pm _ n 0 _ _ _ rfl (Nat.zero_le _) D4 hS (ItemsOf.nil P) fun s' Cc c' hm Ln Hi=>?_⟩
 exact hR s' Cc c' hm Ln Hi
theorem Uw (W:WalksS prog w A.in1 I fp wr G n P St) (hT:∀i s,St i s->s.TypeIs (.ref I) "list_reverseiterator") (S:Addr) (D4:St 0 s) (Pm:S∉fp) (hI:I∈fp)
  (hS:s.heap.get? S=some { cls:=.type "list",data:=.seq #[] })
  (hR:∀s' Cc c',Moved (S::wr) G s s'->s'.heap.get? S=some { cls:=.type "list",dict:=none,data:=.seq Cc c',slots:=#[] }->ItemsOf P Cc n->R (.ok (.ret .none)) s') (hn:n≤sizeLine) :
  wpAny (model prog w) A.in1 (Builtin.«list.__init__» ⟨[.ref S,.ref I],[]⟩)
   (fun fin s'=>match fin with|.done f=>R (.ok f) s'|.again c'=>c'.quiet=true/\codeAny (model prog w) A c' R s') (fun e s'=>R (.error e) s') s:=by
 show wpAny _ A.in1 (do let old <-Builtin.List.listItems (.ref S);Builtin.List.listUpdate (.ref S) (fun _=>#[]);letGo old.toList.reverse;Builtin.List.listExtendWith (.ref S) (.ref I) .none) _ _ s
 refine wpAny_bind ?_
 unfold Builtin.List.listItems
 refine wpAny_bind (wpAny_seqItems hS rfl (wpAny_pure ?_))
 show wpAny _ A.in1 (updateSeq S (fun _=>#[]) >>= fun _=>letGo (#[]:Array Value).toList.reverse >>= fun _=>Builtin.List.listExtendWith (.ref S) (.ref I) .none) _ _ s
 refine wpAny_bind (wpAny_updateSeq hS rfl ?_)
 have hS₂:=Heap.get?_update_self (Obj.mapSeq (fun _=>(#[]:Array Value))) hS rfl
 have Qx:∀b o,b≠S->s.heap.get? b=some o->(s.heap.update S (Obj.mapSeq (fun _=>(#[]:Array Value)))).get? b=some o:=fun b o hb e=>(Heap.get?_update_other _ _ (Ne.symm hb)).trans e
 refine wpAny_bind (wpAny_letGo ?_)
 refine Q2 (hn:=hn) W hT S .none _ (W.frame 0 s _ s.toks D4 (Nat.le_refl _) fun b hb o e=>Qx b o (fun h=>Pm (h▸hb)) e) Pm hI hS₂ fun s' Cc c' hm Ln Hi=>?_
 exact hR s' Cc c' (Moved.trans W.gtrans ((Moved.refl W.grefl).then_heap (Nat.le_refl _) fun b o hb e=>Qx b o (fun h=>hb (h▸List.mem_cons_self)) e) hm) Ln Hi
end
section
variable {prog:Program}{w:World}{A:Around}{E:Value->Shared->Prop}{s:Shared}
theorem LZ {I l:Addr} {items:Array Value} {Q:Value->Shared->Prop} (hh:A.handled=none) (hit:s.heap.IsRevIter I l ((items.size:Int)-1)) (hl:s.heap.IsList l items) (Co:l≠I) (hn:items.size≤sizeLine)
  (hQ:∀h' tk c',(∀b o,b≠I->s.heap.get? b=some o->h'.get? b=some o)->h'.get? s.heap.objs.size=some { cls:=.type "list",dict:=none,data:=.seq items.toList.reverse.toArray c',slots:=#[] }->Q (.ref s.heap.objs.size) { s with heap:=h',toks:=tk }) :
  wpAny (model prog w) A (call (.type "list") [.ref I]) Q E s:=by
 have W:=(Walks.listRev (prog:=prog) (w:=w) (A:=A.in1.in1) (by simpa using hh) I l Co items).toS
 obtain ⟨oI,rA,_⟩:=id hit
 obtain ⟨oL,SD,_⟩:=id hl
 have Pm:s.heap.objs.size∉[I,l]:=fun hm=>by
  simp only [List.mem_cons,List.not_mem_nil,or_false]at hm
  rcases hm with e|e
  ·rw [<-e]at rA;exact Nat.lt_irrefl _ (Heap.lt_size rA)
  ·rw [<-e]at SD;exact Nat.lt_irrefl _ (Heap.lt_size SD)
 refine callType_codes (Q₁:=fun obj s₁=>obj=.ref s.heap.objs.size/\s₁={ s with heap:=s.heap.push { cls:=.type "list",data:=.seq #[] } }) F.called_list (F.typeCall_list_1 _) F.entry_list_init
  (code_list_new _ ⟨rfl,rfl⟩) fun obj s₁ h₁=>?_
 obtain ⟨rfl,rfl⟩:=h₁
 have hS:(s.heap.push { cls:=.type "list",data:=.seq #[] }).get? s.heap.objs.size=some { cls:=.type "list",data:=.seq #[] }:=Heap.get?_push_size _ rfl
 have e0:(items.size:Int)-1-((0:Nat):Int)=(items.size:Int)-1:=by lia
 refine ⟨⟨_,hS,rfl⟩,F.args_list_init_2 _ _,Uw (hn:=hn) W (fun i s st=>st.2.1.typeIs) _ (W.frame 0 s _ s.toks ⟨Nat.zero_le _,by rw [e0];exact hit,hl⟩ (Nat.le_refl _) fun b _ o e=>Heap.get?_push_of_some _ e) Pm (by simp) hS fun s' Cc c' hm Ln Hi=>⟨rfl,?_⟩⟩
 have ea:Cc=items.toList.reverse.toArray:=by
  refine Array.ext_getElem? fun j=>?_
  by_cases hj:j<items.size
  ·have sJ:j<Cc.size:=by rw [Hi.1];exact hj
   have:=Hi.2 j _ (Array.getElem?_eq_getElem sJ)
   rw [Array.getElem?_eq_getElem sJ,<-this]
   simp [List.getElem?_reverse,hj]
  ·rw [Array.getElem?_eq_none (by rw [Hi.1];lia),Array.getElem?_eq_none (by simp;lia)]
 rw [ea]at Ln
 obtain ⟨Xb,g',d',yN,md⟩:=s'
 have q1:g'=s.gens:=hm.gens
 have q2:d'=s.drawn:=hm.drawn
 have q3:md=s.os:=hm.os
 subst q1 q2 q3
 exact hQ Xb yN c' (fun b o hb e=>hm.heap b o (by simp only [List.mem_cons,List.not_mem_nil,or_false,not_or];exact ⟨Nat.ne_of_lt (Heap.lt_size e),hb⟩) (Heap.get?_push_of_some _ e)) Ln
end
end TF
namespace TF
section
section
open PySem PyProof.Rows
variable {prog:Program}{w:World}{K:Type} [DecidableEq K] {knd:EK prog w K}{A:Around}
theorem Qq {R:Result->Shared->Prop} {I l S:Addr} {items:Array Value} {ks U:List K} (hh:A.in1.handled=none) (rC:l≠I) (UZ:S≠I) (tQ:S≠l) (hr:knd.room A.in1) (hlen:ks.length=items.size)
  (inj:∀k∈ks,∀k'∈ks,knd.hash k'=knd.hash k->k'=k) (hU:∀k∈ks,k∈U) (qW:U.length≤75) :
  ∀(n i:Nat) (s:Shared),items.size-i=n->i≤items.size->(s.heap.IsTupleIter I l i/\s.heap.IsTuple l items)->(∀(j:Nat) k v,ks[j]?=some k->items[j]?=some v->knd.is s.heap k v)->SetAt knd s.heap S (DA [] (ks.take i)) →
   (∀h' tk,(∀b o,b≠S->b≠I->s.heap.get? b=some o->h'.get? b=some o)->SetAt knd h' S (DA [] ks)->R (.ok (.ret .none)) { s with heap:=h',toks:=tk }) →
   codeAny (model prog w) A (.builtin "set.update.loop" ⟨[.ref S,.ref I],[]⟩) R s:=by
 have W:=Walks.tuple (prog:=prog) (w:=w) hh I l rC items
 intro n
 induction n with
 |zero=>
  intro i s hn hi st Z7 hS hR
  obtain rfl:i=items.size:=by lia
  refine codeAny_builtin F.entry_set_update_loop ?_
  rw [Around.under_plainId F.plain_set_update_loop _]
  refine wpAny_bind (m:=pyNext (.ref I)) (W.done s _ _ st fun h' tk hm=>?_)
  refine wpAny_pure (hR h' tk (fun b o _ hb e=>hm b o (by simp [hb]) e) ?_)
  rw [<-hlen,List.take_length]at hS
  refine hS.kept (fun o e=>hm S o (by simp [UZ]) e) fun b o e h1 h2=>hm b o (fun z=>?_) e
  obtain ⟨oi,z1,z2,z3⟩:=st.1
  rw [List.mem_singleton.mp z,z1]at e
  cases e
  exact h2 _ z3
 |succ n ih=>
  intro i s hn hi st Z7 hS hR
  have A4:i<items.size:=by lia
  refine codeAny_builtin F.entry_set_update_loop ?_
  rw [Around.under_plainId F.plain_set_update_loop _]
  refine wpAny_bind (m:=pyNext (.ref I)) (W.item i s _ _ A4 st fun v h1 tF hv BS Vw=>?_)
  have pI:∀b o,s.heap.get? b=some o->(∀es ep t,o.data≠.set es ep t)->(∀vs,o.data≠.fields vs)->h1.get? b=some o:=fun b o e _ h2=>Vw b o (fun z=>by
   obtain ⟨oi,z1,z2,z3⟩:=st.1
   rw [List.mem_singleton.mp z,z1]at e
   cases e
   exact h2 _ z3) e
  have qR:i<ks.length:=by lia
  have iA:ks[i]?=some ks[i]:=List.getElem?_eq_getElem qR
  have Yn:SetAt knd h1 S (DA [] (ks.take i)):=hS.kept (fun o e=>Vw S o (by simp [UZ]) e) pI
  have Zc:knd.is h1 ks[i] v:=knd.keeps (Z7 i _ v iA hv) pI
  have jK:ks[i]∈ks:=List.getElem_mem qR
  have Lq:∀k∈DA [] (ks.take i),k∈ks:=fun k hk=>by
   rcases (LO _ _ _).mp hk with z|z
   ·cases z
   ·exact List.mem_of_mem_take z
  have et:DA [] (ks.take (i+1))=if ks[i]∈DA [] (ks.take i)then DA [] (ks.take i)else ks[i]::DA [] (ks.take i):=by
   rw [List.take_add_one,iA,Oi]
   rfl
  refine wpAny_bind (m:=holding [v] (setAdd S v)) (wpAny_holding ?_)
  unfold setAdd
  refine wpAny_holding (wpAny_bind (knd.pyHash (s:={ s with heap:=h1,toks:=tF }) hr Zc fun jE=>?_))
  refine Zh (s:={ s with heap:=h1,toks:=jE }) Yn hr Zc (fun k' Dp e=>inj _ jK _ (Lq k' Dp) e) ?_ fun h2 bb LV sT=>?_
  ·have:=TN (Ja (ks.take i) [] List.nodup_nil) (m:=U) fun x hx=>hU x (Lq x hx)
   lia
  ·rw [<-et]at sT
   have iG:∀b o,h1.get? b=some o->b≠S->h2.get? b=some o:=fun b o e hb=>LV.extBut b o hb e
   have v7:∀b o,h1.get? b=some o->(∀es ep t,o.data≠.set es ep t)->(∀vs,o.data≠.fields vs)->h2.get? b=some o:=fun b o e h3 _=>iG b o e fun z=>by
    obtain ⟨o',es,ep,t,HE,_,UW,_⟩:=Yn
    rw [z,HE]at e
    cases e
    exact h3 _ _ _ UW
   refine wpAny_pure ⟨plainId_quiet F.plain_set_update_loop _,ih (i+1) _ (by lia) A4 ?_ (fun j k u hj hu=>knd.keeps (knd.keeps (Z7 j k u hj hu) pI) v7) sT fun h' tk hk Ln=>?_⟩
   ·exact ⟨BS.1.at fun o e=>iG I o e (Ne.symm UZ),BS.2.at fun o e=>iG l o e (Ne.symm tQ)⟩
   ·exact hR h' tk (fun b o QC ZG e=>hk b o QC ZG (iG b o (Vw b o (by simp [ZG]) e) QC)) Ln
end
section
open PySem PyProof.Rows
variable {prog:Program}{w:World}{K:Type} [DecidableEq K] {knd:EK prog w K}{A:Around}{E:Value->Shared->Prop}{s:Shared}
theorem Px {l:Addr} {items:Array Value} {ks U:List K} {Q:Value->Shared->Prop} (hh:A.handled=none) (hl:s.heap.IsTuple l items) (hr:knd.room A.in1.in1.in1) (hlen:ks.length=items.size)
  (Z7:∀(j:Nat) k v,ks[j]?=some k->items[j]?=some v->knd.is s.heap k v) (inj:∀k∈ks,∀k'∈ks,knd.hash k'=knd.hash k->k'=k) (hU:∀k∈ks,k∈U) (qW:U.length≤75)
  (h:∀h' tk,SetAt knd h' s.heap.objs.size (DA [] ks)->(∀b o,b<s.heap.objs.size->s.heap.get? b=some o->h'.get? b=some o)->Q (.ref s.heap.objs.size) { s with heap:=h',toks:=tk }) :
  wpAny (model prog w) A (call (.type "set") [.ref l]) Q E s:=by
 obtain ⟨c0,qF,mJ⟩:=F.called_set.mro
 have qj:=F.called_set.made
 have dY:=F.called_set.sub
 refine wpAny_call (codeAny_of_tree ?_)
 show wpAny _ _ (callAny (.type "set") _) _ _ _
 refine wpAny_pure ⟨Code.quiet_builtin _ (by decide +kernel),codeAny_builtin F.entry_type_call ?_⟩
 rw [Around.under_plain (weight_type_call_type "set" [.ref l] []) rfl]
 have yl:=F.called_set.notType
 have zC:=F.called_set.canCreate
 have yr:=F.typeCall_set_1 (.ref l)
 repeat (any_goals (first|assumption|wp_step))
 refine codeAny_mono (TX (.ref l) (E:=E) (Q₁:=fun v s₁=>∃led,led=Oo w/\v=.ref s.heap.objs.size/\s₁={ s with heap:=s.heap.push (Nf led) }) ⟨_,rfl,rfl,rfl⟩) fun res s₁ bX=>?_
 cases res with
 |error e=>exact bX
 |ok fl=>
  cases fl with
  |ret v=>
   obtain ⟨led,G0,rfl,rfl⟩:=bX
   have hS:(s.heap.push (Nf led)).get? s.heap.objs.size=some (Nf led):=Heap.get?_push_size _ rfl
   have hT:Shared.TypeIs { s with heap:=s.heap.push (Nf led) } (.ref s.heap.objs.size) "set":=⟨_,hS,rfl⟩
   have zL:=F.called_set.init.lookup
   have zH:=F.called_set.init.bind (.ref s.heap.objs.size)
   repeat (any_goals (first|assumption|wp_step))
   refine codeAny_mono (codeAny_call_builtin (R:=wants (fun r s₂=>r=.none/\∃h' tk,s₂={ s with heap:=h',toks:=tk }/\SetAt knd h' s.heap.objs.size (DA [] ks)/\(∀b o,b<s.heap.objs.size->s.heap.get? b=some o->h'.get? b=some o)) E)
    F.called_set.init.plain F.entry_set_init (check_set_init_1 hT ?_)) fun kY s₂ Us=>?_
   ·obtain ⟨ol,iL,cl,nl,dl⟩:=hl
    obtain ⟨c1,d1,yh,iR⟩:=ol
    simp only at cl dl
    subst cl;subst dl
    have kU:(s.heap.push (Nf led)).get? l=some { cls:=.type "tuple",dict:=d1,data:=.seq items nl,slots:=iR }:=Heap.get?_push_of_some _ iL
    have q1:=F.sub_tuple_set
    have q2:=F.sub_tuple_frozenset
    have q3:(Value.type "tuple"==Value.type "dict")=false:=by decide
    have sO:(s.heap.push (Nf led)).IsTuple l items:=⟨_,kU,rfl,nl,rfl⟩
    have lS:l<s.heap.objs.size:=Heap.lt_size iL
    have hI:(s.heap.push (Nf led)).objs.size=s.heap.objs.size+1:=Heap.size_push ..
    unfold Builtin.«set.__init__» noKeywords Builtin.Frozenset.updateFrom
    generalize hPI:pyIter=PI
    wp_walk
    subst hPI
    refine wpAny_pyIter_tuple sO (wpAny_bind (wpAny_runValue ?_))
    refine Qq (A:=A.in1.in1) (U:=U) (by simp [hh]) (Nat.ne_of_lt (by rw [hI];exact Nat.lt_succ_of_lt lS)) (Nat.ne_of_lt (by rw [hI];exact Nat.lt_succ_self _)) (Nat.ne_of_gt lS) hr hlen inj hU qW (items.size-0) 0 _ rfl (Nat.zero_le _)
     ⟨⟨_,Heap.get?_push_size _ rfl,rfl,rfl⟩,sO.at fun o e=>Heap.get?_push_of_some _ e⟩ (fun j k u hj hu=>knd.keeps (Z7 j k u hj hu) fun b o e _ _=>Heap.get?_push_of_some _ (Heap.get?_push_of_some _ e)) (SetAt.new s.heap led G0 (Heap.get?_push_of_some _ hS)) ?_
    intro h' tk hk bS
    refine wpAny_pure (wpAny_pure ⟨rfl,h',tk,rfl,bS,fun b o hb e=>?_⟩)
    exact hk b o (Nat.ne_of_lt hb) (Nat.ne_of_lt (by rw [hI];exact Nat.lt_succ_of_lt hb)) (Heap.get?_push_of_some _ (Heap.get?_push_of_some _ e))
   ·cases kY with
    |error e=>exact Us
    |ok wC=>
     cases wC with
     |ret r=>
      obtain ⟨rfl,h',tk,rfl,bS,hk⟩:=Us
      repeat (any_goals (first|assumption|wp_step))
      exact h _ _ bS hk
     |_=>exact Us.elim
  |_=>exact bX.elim
end
open PySem PySem.Spec L2
open PyProof.Rows hiding St RelV
section
variable {X:Cx}{ρ:Rho}{G:Gs}{a:Expr}{l:List Sq}{pos p1 p2 p3:Pos}
theorem W8 (hs:X.mg "set"=none) (hu:X.A.units+9<cLine) (B9:X.calm=true) (ha:PX X ρ G a (.tup (l.map sq))) (hb:∀p∈l,p∈IB) {pins:List (Addr×Obj)} {s:Shared} {σ:St} {H:Hp} (I:Inv X pins σ H s) (S:Stt X H σ ρ G) {Q:Value->Shared->Prop}
  (h:∀H1 s1 p,Inv X pins σ H1 s1->Ext H G H1 G->GOk X.K H1 G->SetAt (dO X.prog X.w fun p u=>∃v,RelV v u/\Rep X.K (hid H1 G) (sq p) v) s1.heap p (DA [] l)->Q (.ref p) s1)
  (hg:Gl X "set":=by rfl) (he:starEach [a] X.env=(false,eval a X.env)::starEach [] X.env:=by rfl):wpAny (model X.prog X.w) X.A (eval (.Call (.Name "set" p1) [a] [] p2) X.env) Q X.xe s:=by
 ·refine wpAny_Call_Name_kw (Cr I hg hs (by decide +kernel:bootBuiltins "set"=some (.type "set")) ?_ (by decide) (by decide))
  refine PyProof.Rows.callWith_type1 (PyProof.Rows.spliced_more (thn (ha pins s σ H I S) fun u s1 ⟨x,H1,I1,r1,d,G1,e1,o1,rx,q1,q2⟩=>PyProof.Rows.spliced_none ?_) he) he rfl
  subst q1;subst q2
  rw [Rep]at rx
  obtain ⟨p,vs,rfl,h1,h2⟩:=rx
  cases r1
  obtain ⟨its,r',pl,hz⟩:=I1.tuple (Af AJ h1)
  have ra:AtL s1.heap (l.map sq) its:=(h2.same AJ).at I1 (DN l 7) r'
  obtain ⟨hlen,Kk⟩:=Rq ra
  have n5:∀(j:Nat) p u,l[j]?=some p->its[j]?=some u->∃v,RelV v u/\Rep X.K (hid H1 G1) (sq p) v:=fun j p u hj IE=>by
   obtain ⟨v,hv,rv⟩:=h2.get (i:=j) (d:=sq p) (by rw [List.getElem?_map,hj];rfl)
   obtain ⟨u',P2,r2⟩:=r'.get hv
   rw [IE]at P2
   cases P2
   exact ⟨v,r2,rv⟩
  refine Px (knd:=dO X.prog X.w fun p u=>∃v,RelV v u/\Rep X.K (hid H1 G1) (sq p) v) (ks:=l) (U:=IB) (I1.ok.hd B9) pl (by show X.A.units+1+1+1+6<cLine;lia) (by simp [hlen]) (fun j k v hj hv=>⟨(Kk j k v hj (by simpa using hv)).sqAt,n5 j k v hj (by simpa using hv)⟩)
   (fun k hk k' Dp e=>Tt k (hb k hk) k' (hb k' Dp) e) hb (by decide) fun h' tk hS hk=>?_
  have I2:Inv X pins σ H1 { s1 with heap:=h',toks:=tk }:=I1.call' rfl (Un.kept fun b o e=>hk b o (Heap.lt_size e) e) (I1.hok.kept fun b o e=>hk b o (Heap.lt_size e) e) I1.bare (ch:=[]) (by simp)
  exact h H1 _ _ I2 e1 o1 hS
theorem Lb (vN:X.mg "sorted"=none) (hs:X.mg "set"=none) (hu:X.A.units+20<cLine) (B9:X.calm=true) (ha:PX X ρ G a (.tup (l.map sq))) (hb:∀p∈l,p∈IB)
  (hg:Gl X "set":=by rfl) (xR:Gl X "sorted":=by rfl) (he:starEach [a] X.env=(false,eval a X.env)::starEach [] X.env:=by rfl)
  (he2:starEach [.Call (.Name "set" p1) [a] [] p2] X.env=(false,eval (.Call (.Name "set" p1) [a] [] p2) X.env)::starEach [] X.env:=by rfl) :
  PX X ρ G (.Call (.Name "sorted" p3) [.Call (.Name "set" p1) [a] [] p2] [] pos) (.lst ((TSq.sort (DA [] l)).map sq)):=by
 intro pins s σ H I S
 refine wpAny_Call_Name_kw (Cr I xR vN (by decide +kernel:bootBuiltins "sorted"=some (.builtin "sorted")) ?_ (by decide) (by decide))
 refine PyProof.Rows.callWith_builtin1 (PyProof.Rows.spliced_more (W8 hs (by lia) B9 ha hb I S (fun H1 s1 p I1 e1 o1 hS=>PyProof.Rows.spliced_none ?_) hg he) he2) he2 rfl
 refine Calls.call_function_entry kind_sorted plain_sorted entry_sorted (args_sorted1 _) ?_
 unfold Builtin.«sorted»
 refine wpAny_bind (m:=checkCount "sorted" 1 1 _) (wpAny_pure ?_)
 refine wpAny_bind (Na (by simpa using I1.ok.hd B9) hS fun h1 ks us pm hlen Z7 Yy=>?_)
 have Ue:ks.length≤77:=by
  obtain ⟨o,es,ep,t,ho,hex,hd,T,hc,_,_⟩:=hS
  have hsz:=T.size
  rw [pm.length_eq,<-hsz]
  rcases hc with ⟨_,z⟩|⟨_,z⟩|⟨_,z⟩<;>lia
 have CG:∀n,n≤77->n≤sizeLine:=fun n hn=>Nat.le_trans hn (by rw [sizeLine_eq];decide)
 obtain ⟨vs,T⟩:=Rt (K:=X.K) (H:=hid H1 G) hlen fun i k u h1 h2=>(Z7 i k u h1 h2).2
 obtain ⟨rd,r'⟩:=T.rep
 have I2:Inv X pins σ H1 { s1 with heap:=h1 }:=I1.call' (s':={ s1 with heap:=h1 }) rfl (Un.kept Yy) (I1.hok.kept Yy) I1.bare (ch:=[]) (by simp)
 have ra:AtL h1 (ks.map sq) us:=(rd.same AJ).at I2 (DN ks 7) r'
 refine wpAny_bind (wpAny_newList ?_ (CG _ (by lia)))
 have SD:(h1.push (seqObj "list" us.toArray 0)).get? h1.objs.size=some (seqObj "list" us.toArray 0):=Heap.get?_push_size _ rfl
 have RM:∀b o,h1.get? b=some o->(h1.push (seqObj "list" us.toArray 0)).get? b=some o:=fun b o e=>Heap.get?_push_of_some _ e
 have O:=WQ TSq ks (.inl fun x=>⟨_,_,rfl⟩)
 refine wpAny_bind (wpAny_holding (wpAny_call_entry slot_list_sort ⟨_,SD,rfl⟩ entry_list_sort (Jx (s:={ s1 with heap:=h1.push (seqObj "list" us.toArray 0) }) (g:=flat) (ds:=ks.map sq) SD (ra.kept RM) (fun _ _ _ _=>trivial) (fun h' k=>ra.kept fun b o e=>k b o (Nat.ne_of_lt (Heap.lt_size e)) (RM b o e)) O (CG _ (by lia)) (by show X.A.units+1+1+8<cLine;lia) fun out hp Ts=>⟨_,rfl,?_⟩) (args_list_sort _)))
 refine wpAny_pure ⟨_,rfl,?_⟩
 obtain ⟨Gw,LJ,T',Y3⟩:=Pb hp T
 obtain ⟨bp,aB⟩:=T'.rep
 have dm:LJ.length≤sizeLine:=by
  have e1:=aB.length
  have e2:=hp.length_eq
  exact CG _ (by lia)
 obtain ⟨ep,ay⟩:=sortedHeap_at (out:=out) SD
 have bA:∀u∈out.toList,By (h1.push (seqObj "list" us.toArray 0)) u=By h1 u:=fun u IE=>by
  obtain ⟨d,hd,hr⟩:=ra.mem u (hp.mem_iff.mp IE)
  rw [Bs (O.pl d hd) hr,Bs (O.pl d hd) (hr.kept RM)]
 have X4:(Gw.map flat).Pairwise (fun x y=>HT.lexLt y x=false):=by
  rw [<-RA I2 (T'.same AJ) (fun d hd=>O.pl d (Y3.mem_iff.mp hd))]
  have e:out.toList.map (fun u=>flat (By h1 u))=out.toList.map (fun u=>flat (By (h1.push (seqObj "list" us.toArray 0)) u)):=List.map_congr_left fun u IE=>by rw [bA u IE]
  show (out.toList.map fun u=>flat (By h1 u)).Pairwise _
  rw [e]
  exact Ts
 obtain ⟨m,rfl,hm⟩:=N3 sq Y3
 have em:m=TSq.sort (DA [] l):=by
  refine TyD.uniq TSq ((hm.trans pm).trans (TSq.sort_perm _).symm) ?_ (TSq.sort_sorted _)
  rw [List.map_map,List.pairwise_map]at X4
  refine X4.imp fun {x y} h=>?_
  unfold TyD.le
  have:lx (flat (TSq.f y)) (flat (TSq.f x))=false:=h
  rw [this];rfl
 subst em
 refine ⟨.ref h1.objs.size,upd H1 h1.objs.size (.lst LJ),?_,rfl,?_⟩
 ·refine I2.laid (t':=s1.toks) (o:=.lst LJ) (fun b o e=>?_) (Nat.le_refl _) ⟨dm,out.toList,ep,aB,by rw [Array.toArray_toList];exact ay⟩
  rw [sortedHeap_old (Nat.ne_of_lt (Heap.lt_size e)) (by rw [size_push'];exact Nat.lt_succ_of_lt (Heap.lt_size e))]
  exact RM b o e
 ·exact Po.trans e1 (Dy o1 (I2.hok.fresh (Nat.le_refl _)) bp)
end
end
end TF
namespace TF
open PySem PySem.Spec L2
open PyProof.Rows hiding St RelV
section
variable {X:Cx}{ρ:Rho}{G:Gs}{a b c:Expr}{d:Dat}{l:List Dat}{pos p1 p2 p3:Pos}{x y:Str}
def lW:V->Option Int->Option Int->Hp->VK->Prop:=fun x lo hi H Q=>∃z,x=.str z/\z.length≤sizeLine/\Q (.str (Txt.slice z lo hi)) H
theorem bD:SlR X lW:=by
 intro pins s σ H x v vl vu lo hi sl Q I rx hs pl pu h
 obtain ⟨z,rfl,hz,q⟩:=h
 obtain ⟨t,rfl⟩:=rx
 obtain ⟨o,ho,hc,hd⟩:=hs
 refine ⟨"str",_,F.slot_str_getitem.lookup,typeIs_str _ _ _,?_⟩
 cases pl with
 |none=>
  cases pu with
  |none=>exact wpAny_getItem_str_slice (l:=none) (u:=none) (st:=none) ⟨o,ho,hc,hd⟩ rfl (post_val_or_str ⟨Nat.le_trans (Txt.slice_le z none none) hz,fun t' k=>⟨.str _,H,I.tok k,⟨t',rfl⟩,q⟩⟩)
  |int j uj=>exact wpAny_getItem_str_slice (l:=none) (u:=some (j,uj)) (st:=none) ⟨o,ho,hc,hd⟩ rfl (post_val_or_str ⟨Nat.le_trans (Txt.slice_le z none (some j)) hz,fun t' k=>⟨.str _,H,I.tok k,⟨t',rfl⟩,q⟩⟩)
 |int i ui=>
  cases pu with
  |none=>exact wpAny_getItem_str_slice (l:=some (i,ui)) (u:=none) (st:=none) ⟨o,ho,hc,hd⟩ rfl (post_val_or_str ⟨Nat.le_trans (Txt.slice_le z (some i) none) hz,fun t' k=>⟨.str _,H,I.tok k,⟨t',rfl⟩,q⟩⟩)
  |int j uj=>exact wpAny_getItem_str_slice (l:=some (i,ui)) (u:=some (j,uj)) (st:=none) ⟨o,ho,hc,hd⟩ rfl (post_val_or_str ⟨Nat.le_trans (Txt.slice_le z (some i) (some j)) hz,fun t' k=>⟨.str _,H,I.tok k,⟨t',rfl⟩,q⟩⟩)
theorem Ct {lo hi:Option Expr} {ol oh:Option Int} (ha:PX X ρ G a (.str x)) (hz:x.length≤sizeLine) (hl:PXo X ρ G lo ol) (hh:PXo X ρ G hi oh):PX X ρ G (.Subscript a (.Slice lo hi none p2) pos) (.str (Txt.slice x ol oh)):=
 Ba (LU bD Ak Lv Lv) fun σ H S=>⟨ρ,G,_,ha,S,fun v H1 ⟨_,_,e1,o1,r1,q1,Bp⟩=>by
  subst q1;subst Bp
  refine ⟨ρ,_,ol,hl,S.ext e1 o1,fun H2 e2 o2=>⟨ρ,_,oh,hh,S.ext (e1.trans e2) o2,fun H3 e3 o3=>?_⟩⟩
  exact ⟨x,r1,hz,Po.trans (e1.trans (e2.trans e3)) (BL o3 rfl)⟩⟩
theorem Zn {i:Int} {n:Nat} (ha:PX X ρ G a (.str x)) (hb:PX X ρ G b (.int i)) (hz:x.length≤sizeLine) (hi:atI x.cps.toList i=some n) (hs:Fq b:=by intro _ _;rfl):PX X ρ G (.Subscript a b pos) (.str (chr n)):=
 Ba (Ri bC Ak Ak hs) fun σ H S=>⟨ρ,G,_,ha,S,fun v H1 ⟨_,_,e1,o1,r1,q1,Bp⟩=>by
  subst q1;subst Bp
  exact ⟨ρ,_,_,hb,S.ext e1 o1,fun u H2 ⟨_,_,e2,o2,r2,q2,Ek⟩=>by
   subst q2;subst Ek
   exact ⟨x,i,n,r1,r2,hz,hi,Po.trans (e1.trans e2) (BL o2 rfl)⟩⟩⟩
def GL (x:Str) (n:Nat):Str:=⟨(List.replicate n x.cps).foldl (·++·) #[]⟩
theorem Od (c:Array Nat):∀(n:Nat) (b:Array Nat),((List.replicate n c).foldl (·++·) b).toList=b.toList++(List.replicate n c.toList).flatten
 |0,b=>by simp
 |n+1,b=>by
  rw [List.replicate_succ,List.foldl_cons,Od c n]
  simp [List.replicate_succ]
theorem IX (x:Str) (n:Nat):(GL x n).cps.toList=(List.replicate n x.cps.toList).flatten:=by
 show ((List.replicate n x.cps).foldl (·++·) #[]).toList=_
 rw [Od]
 simp
theorem Hk (x:Str) (n:Nat):(GL x n).length=n*x.length:=by
 show (GL x n).cps.size=n*x.cps.size
 rw [<-Array.length_toList,IX]
 simp
theorem XO:OpR X (binaryOp .Mult) (fun x y H Q=>∃(z:Str) (n:Nat),x=.str z/\y=.int (n:Int)/\1≤n/\n≤1000/\z.length≤100/\Q (.str (GL z n)) H):=by
 intro pins s σ H x y v u Q I rx ry h
 obtain ⟨z,n,rfl,rfl,h1,h2,h3,q⟩:=h
 obtain ⟨t,rfl⟩:=rx
 obtain ⟨t',rfl⟩:=ry
 have hl:=Hk z n
 have hmul:n*z.length≤1000*100:=Nat.mul_le_mul h2 h3
 have hsz:(100000:Nat)≤sizeLine:=by rw [sizeLine_eq];decide
 refine P.mul_str (by
  have e1:decide ((n:Int) < -(2 ^ 63:Int))=false:=decide_eq_false (by lia)
  have e2:decide ((n:Int)≥2 ^ 63)=false:=decide_eq_false (by lia)
  rw [e1,e2];rfl) (fun _ _=>?_) (fun _ _=>?_) ?_
 ·have:(100:Int)≤(2 ^ 63-1) / (n:Int):=by
   rw [Int.le_ediv_iff_mul_le (by lia)]
   lia
  lia
 ·unfold Builtin.Str.tooLong
  rw [Int.toNat_natCast,Nat.mul_comm]
  simp only [decide_eq_false_iff_not,Nat.not_lt]
  lia
 ·rw [if_neg (by lia)]
  split
  ·rename_i hc
   have e:GL z n=z:=by
    refine Hb ?_
    rw [IX]
    rw [Bool.or_eq_true,beq_iff_eq,beq_iff_eq]at hc
    rcases hc with hc|hc
    ·have:n=1:=by lia
     subst this
     simp
    ·have:z.cps.toList=[]:=by
      rw [<-List.length_eq_zero_iff,Array.length_toList];exact hc
     rw [this];simp
   rw [e]at q
   exact ⟨.str z,H,I,⟨t,rfl⟩,q⟩
  ·refine ⟨?_,?_⟩
   ·have:(GL z n).length≤sizeLine:=by rw [hl];lia
    simpa [GL]using this
   ·exact ⟨.str (GL z n),H,I.tok _,⟨s.toks,by simp [GL]⟩,q⟩
theorem RJ {n:Nat} (ha:PX X ρ G a (.str x)) (hb:PX X ρ G b (.int (n:Int))) (h1:1≤n) (h2:n≤1000) (h3:x.length≤100):PX X ρ G (.BinOp a .Mult b pos) (.str (GL x n)):=
 JI XO ha hb fun H u v Q o hx hy k=>⟨x,n,hx,hy,h1,h2,h3,k _ _ (BL o rfl)⟩
theorem QM (iI:X.mg "list"=none) (ug:X.mg "reversed"=none) (B9:X.calm=true) (ha:PX X ρ G a (.lst l))
  (hg:Gl X "reversed":=by rfl) (gc:Gl X "list":=by rfl) (he:starEach [a] X.env=(false,eval a X.env)::starEach [] X.env:=by rfl)
  (he2:starEach [.Call (.Name "reversed" p1) [a] [] p2] X.env=(false,eval (.Call (.Name "reversed" p1) [a] [] p2) X.env)::starEach [] X.env:=by rfl) :
  PX X ρ G (.Call (.Name "list" p3) [.Call (.Name "reversed" p1) [a] [] p2] [] pos) (.lst l.reverse):=by
 intro pins s σ H I S
 refine wpAny_Call_Name_kw (Cr I gc iI (by decide +kernel:bootBuiltins "list"=some (.type "list")) ?_ (by decide) (by decide))
 refine PyProof.Rows.callWith_type1 (PyProof.Rows.spliced_more ?_ he2) he2 rfl
 refine wpAny_Call_Name_kw (Cr I hg ug (by decide +kernel:bootBuiltins "reversed"=some (.type "reversed")) ?_ (by decide) (by decide))
 refine PyProof.Rows.callWith_type1 (PyProof.Rows.spliced_more (thn (ha pins s σ H I S) fun u s1 ⟨v,H1,I1,r1,d,G1,e1,o1,rx,q1,q2⟩=>PyProof.Rows.spliced_none ?_) he) he rfl
 subst q1;subst q2
 rw [Rep]at rx
 obtain ⟨p,vs,rfl,h1,h2⟩:=rx
 cases r1
 obtain ⟨its,r',pl,hz⟩:=I1.list (SqL.of (AJ _ _ h1))
 have hlen:=r'.length
 refine call_reversed_list pl.isList (PyProof.Rows.spliced_none ?_)
 obtain ⟨oL,SD,tK,nL,tL⟩:=pl.isList
 have A4:=Heap.lt_size SD
 refine LZ (I:=s1.heap.objs.size) (l:=p) (items:=its.toArray) (by simpa using I1.ok.hd B9) ⟨_,Heap.get?_push_size _ rfl,rfl,rfl⟩ ⟨oL,Heap.get?_push_of_some _ SD,tK,nL,tL⟩ (Nat.ne_of_lt A4) (by simp only [List.size_toArray];lia) fun h' tk c' hk hS=>?_
 have kp:∀b o,s1.heap.get? b=some o->h'.get? b=some o:=fun b o e=>hk b o (Nat.ne_of_lt (Heap.lt_size e)) (Heap.get?_push_of_some _ e)
 rw [Heap.size_push]at hS ⊢
 have aU:=I1.hok.fresh (Nat.le_succ s1.heap.objs.size)
 refine ⟨.ref (s1.heap.objs.size+1),upd H1 (s1.heap.objs.size+1) (.lst vs.reverse),I1.laid (t':=tk) kp (Nat.le_succ _) (show ObjOk X.prog X.w _ h' _ (.lst vs.reverse)from ⟨by rw [List.length_reverse];exact hz,its.reverse,c',WY r',?_⟩),rfl,Po.trans e1 (Dy o1 aU (RepL.rev h2))⟩
 simpa using hS
end
theorem RS (xs:Array Nat):∀m,m≤xs.size->(List.range m).filterMap (xs[·]?)=xs.toList.take m
 |0,_=>rfl
 |m+1,h=>by
  rw [List.range_succ,List.filterMap_append,RS xs m (by lia),List.take_add_one]
  congr 1
  have:xs[m]?=some (xs[m]'(by lia)):=Array.getElem?_eq_getElem (by lia)
  simp [this]
theorem U7 {x:Str} {l:List Nat} {c:Nat} (e:x.cps.toList=l++[c]):(Txt.slice x none (some (-1))).cps.toList=l:=by
 have hs:x.cps.size=l.length+1:=by rw [<-Array.length_toList,e];simp
 have hi:Builtin.Str.strSliceIndices none (some (-1)) 1 x.length=List.range l.length:=by
  show Builtin.Str.strSliceIndices none (some (-1)) 1 x.cps.size=_
  rw [hs]
  unfold Builtin.Str.strSliceIndices sliceRange
  simp only [show (1:Int) > 0 by decide,if_true,show (-1:Int)<0 by decide]
  have e1:max 0 (min (-1+((l.length+1:Nat):Int)) ((l.length+1:Nat):Int))=(l.length:Int):=by lia
  rw [e1]
  have e2:(if (0:Int)<(l.length:Int)then ((l.length:Int)-0+1-1) / 1 else 0).toNat=l.length:=by
   split
   ·simp
   ·simp;lia
  rw [e2]
  refine (List.map_congr_left fun k _=>?_).trans (List.map_id _)
  simp
 unfold Txt.slice
 rw [hi,List.length_range,if_neg]
 ·show ((List.range l.length).filterMap (x.cps[·]?)).toArray.toList=l
  rw [List.toList_toArray,RS _ _ (by lia),e]
  simp
 ·show ¬((1:Int)==1&&l.length==x.cps.size)=true
  rw [hs]
  simp
theorem Zg:∀ls:List (List Nat),(jn ls).length≤(ls.map (·.length)).sum+ls.length
 |[]=>Nat.le_refl _
 |[a]=>by simp [jn]
 |a::b::r=>by
  have:=Zg (b::r)
  simp only [jn,List.map_cons,List.sum_cons,List.length_append,List.length_cons]at this ⊢
  lia
theorem bW {ss:List Str} (h1:∀s∈ss,s.length≤8) (h2:ss.length≤20):JoinOk (chr 10) ss=true/\(Txt.join (chr 10) ss).length≤1000:=by
 have hs:(ss.map (·.length)).sum≤ss.length*8:=StrLaws.sumLen_le ss h1
 constructor
 ·unfold JoinOk
  rw [StrLaws.joinTotal]
  unfold Builtin.Str.tooLong
  have:=sz (show 200≤5000 by decide)
  have:(chr 10).length=1:=rfl
  rw [this]
  simp
  lia
 ·show (Builtin.Str.glued (chr 10) ss).cps.size≤1000
  rw [StrLaws.glued_eq_join,<-Array.length_toList,show chr 10=(⟨#[10]⟩:Str)from rfl,Jh]
  refine Nat.le_trans (Zg _) ?_
  rw [List.map_map,List.length_map]
  have e:((fun x:List Nat=>x.length) ∘ fun p:Str=>p.cps.toList)=fun p=>p.length:=by funext p;simp [Str.length]
  rw [e]
  lia
theorem Hj (ss:List Str) (lo hi:Option Int):∃La:List Str,LN (ss.map .str) lo hi=La.map .str/\La.length≤ss.length/\∀s∈La,s∈ss:=by
 refine ⟨(ss.drop (HT.sIx ss.length 0 lo)).take (HT.sIx ss.length ss.length hi-HT.sIx ss.length 0 lo),?_,?_,fun s hs=>List.mem_of_mem_drop (List.mem_of_mem_take hs)⟩
 ·unfold LN
  rw [List.length_map,<-List.map_drop,<-List.map_take]
 ·rw [List.length_take,List.length_drop];lia
theorem Vg {k:Lay} {h w:Nat} (bx:BX k h w):(Txt.split (Bh (Ag k h w)) (chr 10)).length=h+1/\∀s∈Txt.split (Bh (Ag k h w)) (chr 10),s.length≤8:=by
 have e:=J9 (x:=Bh (Ag k h w)) (k:=k) (h:=h) (w:=w) rfl
 have e':(Txt.split (Bh (Ag k h w)) (chr 10)).map (fun p=>p.cps.toList)=(List.range h).map (A5 k w)++[[]]:=e
 have X7:=bx.sm
 constructor
 ·have:=congrArg List.length e'
  simpa using this
 ·intro s hs
  have:s.cps.toList∈(List.range h).map (A5 k w)++[[]]:=by rw [<-e'];exact List.mem_map.mpr ⟨s,hs,rfl⟩
  have hl:s.length=s.cps.toList.length:=by simp [Str.length]
  rw [hl]
  rcases List.mem_append.mp this with q|q
  ·obtain ⟨r,_,q⟩:=List.mem_map.mp q
   rw [<-q]
   simp [A5]
   lia
  ·rw [List.mem_singleton.mp q];simp
theorem Ie {k:Lay} {h w:Nat} (bx:BX k h w):(Bh (Ag k h w)).length≤72/\2≤(Bh (Ag k h w)).length:=by
 have X7:=bx.sm
 obtain ⟨a,b,rfl,rfl⟩:=Ks bx
 rw [DU,C8]
 constructor
 ·exact Nat.le_trans (Nat.mul_le_mul X7.1 (show b+1+1≤9 by lia)) (by decide)
 ·exact Nat.mul_le_mul (show 1≤a+1 by lia) (show 2≤b+1+1 by lia)
theorem TK {F:List Sq} (up:F.Pairwise A1):TSq.sort (DA [] F)=F:=by
 have nd:F.Nodup:=up.imp fun {a b} h e=>by subst e;exact Ax _ h
 refine TSq.uniq ((TSq.sort_perm _).trans ?_) (TSq.sort_sorted _) (MG up)
 refine (List.perm_ext_iff_of_nodup (Ja F [] List.nodup_nil) nd).mpr fun x=>?_
 rw [LO]
 simp
def Nl:SpD:=fun ds G R=>∃d:Dat,ds=[d]/\okT d/\(isT d->R (.bl false) G)/\(¬isT d->R (.bl true) G)
def Rz:SpD:=fun ds G R=>∃d:Dat,ds=[d]/\okT d/\¬isT d/\R (.bl true) G
def Jk:SpD:=fun ds G R=>∃(F:List Sq) (k:Lay) (h w:Nat) (c:Int),ds=[.str (Bh (Ag k h w)),.int c]/\Good F/\IsLay F k/\BX k h w/\∀d,okT d->¬isT d->R d G
def GC:SpD:=fun ds G R=>∃(k:Lay) (h w:Nat) (a b c:Int),ds=[.str (Bh (Ag k h w)),.int a,.int b,.int c]/\BX k h w/\∀y:Str,y.length≤1000->R (.str y) G
def GG:SpD:=fun ds G R=>∃F:List Sq,ds=[fl F]/\Good F/\R (.bl true) G
def top (i:Nat):Stmt:=PySem.Challenge.pw_tilefloor_k14_spoilt_texts.main.body.getD i (.Pass ⟨0,0,0,0⟩)
abbrev BK:Stmt:=top 7
abbrev N1:List Str:=["thing"]
abbrev CS:List Str:=["thing"]
theorem Mp:FnScope N1 CS (AB BK):=⟨rfl,rfl,rfl,by decide +kernel,rfl,by decide +kernel,by decide +kernel⟩
abbrev B2:Stmt:=top 8
abbrev UQ:List Str:=["thing"]
abbrev DT:List Str:=["thing"]
theorem P8:FnScope UQ DT (AB B2):=⟨rfl,rfl,rfl,by decide +kernel,rfl,by decide +kernel,by decide +kernel⟩
abbrev Bd:Stmt:=top 9
abbrev Pw:List Str:=["thing"]
abbrev Cs:List Str:=["thing"]
theorem OT:FnScope Pw Cs (AB Bd):=⟨rfl,rfl,rfl,by decide +kernel,rfl,by decide +kernel,by decide +kernel⟩
abbrev BH:Stmt:=top 10
abbrev PJ:List Str:=["thing"]
abbrev CV:List Str:=["thing"]
theorem NO:FnScope PJ CV (AB BH):=⟨rfl,rfl,rfl,by decide +kernel,rfl,by decide +kernel,by decide +kernel⟩
abbrev Ay:Stmt:=top 11
abbrev JD:List Str:=["things"]
abbrev CQ:List Str:=["things"]
theorem Nr:FnScope JD CQ (AB Ay):=⟨rfl,rfl,rfl,by decide +kernel,rfl,by decide +kernel,by decide +kernel⟩
abbrev Ga:List Str:=["one","other"]
abbrev Lc:List (Option Nat):=[none,none]
abbrev Bo:Stmt:=top 12
abbrev Ly:List Str:=["floor"]
abbrev DO:List Str:=["floor"]
theorem Qe:FnScope Ly DO (AB Bo):=⟨rfl,rfl,rfl,by decide +kernel,rfl,by decide +kernel,by decide +kernel⟩
abbrev JA:List Str:=["thing"]
abbrev Pc:List (Option Nat):=[none]
abbrev Bk:Stmt:=top 13
abbrev Sk:List Str:=["stones","squares","stone"]
abbrev DQ:List Str:=["stones"]
theorem Gp:FnScope Sk DQ (AB Bk):=⟨rfl,rfl,rfl,by decide +kernel,rfl,by decide +kernel,by decide +kernel⟩
abbrev BM:Stmt:=top 16
abbrev P9:List Str:=["laying","signs","lesser","greater","stands"]
abbrev Cv:List Str:=["laying"]
theorem Ds:FnScope P9 Cv (AB BM):=⟨rfl,rfl,rfl,by decide +kernel,rfl,by decide +kernel,by decide +kernel⟩
abbrev Az:Stmt:=top 17
abbrev JB:List Str:=["signs","row","wide"]
abbrev CP:List Str:=["signs","row","wide"]
theorem NU:FnScope JB CP (AB Az):=⟨rfl,rfl,rfl,by decide +kernel,rfl,by decide +kernel,by decide +kernel⟩
abbrev GZ:List Str:=["column","row","signs"]
abbrev Lr:List (Option Nat):=[none,some 1,some 0]
abbrev CL:Stmt:=top 18
abbrev Jm:List Str:=["laying","signs","high","wide"]
abbrev Fs:List Str:=["laying"]
theorem IH:FnScope Jm Fs (AB CL):=⟨rfl,rfl,rfl,by decide +kernel,rfl,by decide +kernel,by decide +kernel⟩
abbrev MM:List Str:=["square"]
abbrev Tw:List (Option Nat):=[none]
abbrev L1:List Str:=["square"]
abbrev Tc:List (Option Nat):=[none]
abbrev MD:List Str:=["row","signs","wide"]
abbrev T8:List (Option Nat):=[none,some 1,some 3]
abbrev BJ:Stmt:=top 19
abbrev OV:List Str:=["text","stones","row","line","column","sign"]
abbrev CZ:List Str:=["text"]
theorem DL:FnScope OV CZ (AB BJ):=⟨rfl,rfl,rfl,by decide +kernel,rfl,by decide +kernel,by decide +kernel⟩
abbrev EY:Stmt:=top 20
abbrev bY:List Str:=["text","laying","floor"]
abbrev HA:List Str:=["text"]
theorem Mk:FnScope bY HA (AB EY):=⟨rfl,rfl,rfl,by decide +kernel,rfl,by decide +kernel,by decide +kernel⟩
abbrev Bj:Stmt:=top 22
abbrev Q3:List Str:=["_law_script","_law_k"]
abbrev Bz:List Str:=["_law_script","_law_k"]
theorem Pl:FnScope Q3 Bz (AB Bj):=⟨rfl,rfl,rfl,by decide +kernel,rfl,by decide +kernel,by decide +kernel⟩
abbrev B8:Stmt:=top 23
abbrev Tz:List Str:=["_law_cell_here","_law_prime","_law_many"]
abbrev Cz:List Str:=["_law_cell_here","_law_prime","_law_many"]
theorem Qn:FnScope Tz Cz (AB B8):=⟨rfl,rfl,rfl,by decide +kernel,rfl,by decide +kernel,by decide +kernel⟩
abbrev Ao:Stmt:=top 24
abbrev Fh:List Str:=["_law_script","_law_at","_law_cell_here","_law_rows","_law_wide","_law_down","_law_right","_law_some","_law_r","_law_gone","_law_k","_law_seed","_law_one","_law_left"]
abbrev CY:List Str:=["_law_script","_law_at"]
theorem AV:FnScope Fh CY (AB Ao):=⟨rfl,rfl,rfl,by decide +kernel,rfl,by decide +kernel,by decide +kernel⟩
abbrev Gh:List Str:=["_law_c","_law_down","_law_r","_law_right"]
abbrev Lj:List (Option Nat):=[none,some 5,some 8,some 6]
abbrev GU:List Str:=["_law_one","_law_gone"]
abbrev Le:List (Option Nat):=[none,some 9]
abbrev BC:Stmt:=top 25
abbrev LL:List Str:=["_law_floor_here","_law_square","_law_r","_law_c"]
abbrev CM:List Str:=["_law_floor_here","_law_square"]
theorem JN:FnScope LL CM (AB BC):=⟨rfl,rfl,rfl,by decide +kernel,rfl,by decide +kernel,by decide +kernel⟩
abbrev IA:List Str:=["_law_one","_law_floor_here"]
abbrev NI:List (Option Nat):=[none,some 0]
abbrev An:Stmt:=top 26
abbrev FZ:List Str:=["_law_floor_here","_law_known","_law_found","_law_last","_law_other","_law_left"]
abbrev Ca:List Str:=["_law_floor_here","_law_known"]
theorem B4:FnScope FZ Ca (AB An):=⟨rfl,rfl,rfl,by decide +kernel,rfl,by decide +kernel,by decide +kernel⟩
abbrev GR:List Str:=["_law_one","_law_last","_law_other"]
abbrev LX:List (Option Nat):=[none,some 3,some 4]
abbrev Gd:List Str:=["_law_row","_law_last","_law_other"]
abbrev LY:List (Option Nat):=[none,some 3,some 4]
abbrev BV:Stmt:=top 27
abbrev MI:List Str:=["_law_floor_here"]
abbrev DP:List Str:=["_law_floor_here"]
theorem P5:FnScope MI DP (AB BV):=⟨rfl,rfl,rfl,by decide +kernel,rfl,by decide +kernel,by decide +kernel⟩
abbrev Iw:List Str:=["_law_row"]
abbrev Pj:List (Option Nat):=[none]
abbrev AY:Stmt:=top 28
abbrev JU:List Str:=["_law_floor_here","_law_laying","_law_squares","_law_k","_law_stone"]
abbrev BF:List Str:=["_law_floor_here","_law_laying"]
theorem B0:FnScope JU BF (AB AY):=⟨rfl,rfl,rfl,by decide +kernel,rfl,by decide +kernel,by decide +kernel⟩
abbrev Aq:Stmt:=top 29
abbrev Fi:List Str:=["_law_laying","_law_known","_law_one","_law_other","_law_rows","_law_wide","_law_found","_law_r","_law_c"]
abbrev CW:List Str:=["_law_laying"]
theorem As:FnScope Fi CW (AB Aq):=⟨rfl,rfl,rfl,by decide +kernel,rfl,by decide +kernel,by decide +kernel⟩
abbrev GV:List Str:=["_law_square"]
abbrev Li:List (Option Nat):=[none]
abbrev GY:List Str:=["_law_square"]
abbrev Lk:List (Option Nat):=[none]
abbrev Av:Stmt:=top 30
abbrev Ls:List Str:=["_law_text"]
abbrev Bl:List Str:=["_law_text"]
theorem Ko:FnScope Ls Bl (AB Av):=⟨rfl,rfl,rfl,by decide +kernel,rfl,by decide +kernel,by decide +kernel⟩
abbrev Au:Stmt:=top 31
abbrev Lo:List Str:=["_law_text","e"]
abbrev Bm:List Str:=["_law_text"]
theorem E7:FnScope Lo Bm (AB Au):=⟨rfl,rfl,rfl,by decide +kernel,rfl,by decide +kernel,by decide +kernel⟩
abbrev Be:Stmt:=top 32
abbrev QJ:List Str:=["_law_text","_law_way","_law_some"]
abbrev Cy:List Str:=["_law_text","_law_way"]
theorem JS:FnScope QJ Cy (AB Be):=⟨rfl,rfl,rfl,by decide +kernel,rfl,by decide +kernel,by decide +kernel⟩
abbrev A9:Stmt:=top 33
abbrev NL:List Str:=["_law_text","_law_way","_law_place","_law_sign","_law_at","_law_rows","_law_spot"]
abbrev B7:List Str:=["_law_text","_law_way","_law_place","_law_sign"]
theorem C1:FnScope NL B7 (AB A9):=⟨rfl,rfl,rfl,by decide +kernel,rfl,by decide +kernel,by decide +kernel⟩
abbrev AZ:Stmt:=top 34
abbrev E9:List Str:=["_law_floor_here"]
abbrev BW:List Str:=["_law_floor_here"]
theorem JW:FnScope E9 BW (AB AZ):=⟨rfl,rfl,rfl,by decide +kernel,rfl,by decide +kernel,by decide +kernel⟩
abbrev ED:List Str:=["_law_one"]
abbrev Ig:List (Option Nat):=[none]
abbrev EE:Stmt:=top 35
abbrev Yz:List Str:=["_law_script","_law_floor_here","_law_every_here","_law_text","_law_way","_law_bad","_law_found"]
abbrev ZA:List Str:=["_law_script"]
theorem FT:FnScope Yz ZA (AB EE):=⟨rfl,rfl,rfl,by decide +kernel,rfl,by decide +kernel,by decide +kernel⟩
end TF
namespace TF
open PySem PySem.Spec L2
open PyProof.Rows hiding St RelV
theorem bE {l:List Nat} (hl:0<l.length) (c:Int):∃n∈l,atI l (c%(l.length:Int))=some n:=by
 have h1:=Int.emod_nonneg c (b:=(l.length:Int)) (by lia)
 have h2:=Int.emod_lt_of_pos c (b:=(l.length:Int)) (by lia)
 have A4:(c%(l.length:Int)).toNat<l.length:=by lia
 have e:c%(l.length:Int)=(((c%(l.length:Int)).toNat:Nat):Int):=by lia
 have z:=GA (List.getElem?_eq_getElem A4)
 rw [<-e]at z
 exact ⟨_,List.getElem_mem A4,z⟩
section
variable {P:Program}{w:World}{K:PySem.W.Frag}{mg:Str->Option Value}{base:Heap}{f:Addr}{fd:FuncData}
theorem Ep {B:Addr} (F:Fun K "_law_refused" "_law_refused" Av f fd) (hB:mg "BadText"=some (.ref B)) (xB:PySem.W.excIn K B [.type "ValueError",.type "Exception",.type "BaseException",.type "object"] "ValueError.__new__"=true) (u:Bi K B B=true) (FR:DfX P w K mg base "read" HA 5 (HP B)):FnOk P w K mg base CX0 6 f fd Bl (BD K Nl):=by
 refine DM (k:=5) F Ko (fun ds G R h=>?_) (fun BO A outer s H E ds G R hr h=>?_)
 ·obtain ⟨d,rfl,_⟩:=h;rfl
 obtain ⟨d,rfl,ok,hF,hT⟩:=h
 by_cases ht:isT d
 ·refine Pg (RX:=fun _ _=>False) rfl rfl (Ip (Q:=fun _ G'=>G=G') (M0 rfl FR hr (AD (AA 0 rfl) AF) ⟨d,rfl,ok,fun _ _ _ _ _ _ _ _=>rfl,fun h=>(h ht).elim⟩) (fun _ _ e=>?_)) xB PySem.F.excBase_ValueError hB (fun _ _ h=>h.elim)
  cases e
  exact AW ZO (hF ht)
 ·refine Pg (RX:=fun cls G'=>cls=.ref B/\G=G') rfl rfl (Ip (Q:=fun _ _=>False) (M0 rfl FR hr (AD (AA 0 rfl) AF) ⟨d,rfl,ok,fun F' k h w' a b c e=>ht ⟨F',k,h,w',a,b,c,e⟩,fun _=>⟨rfl,rfl⟩⟩) (fun _ _ h=>h.elim)) xB PySem.F.excBase_ValueError hB ?_
  rintro cls G' ⟨rfl,rfl⟩
  exact ⟨B,_,_,rfl,xB,u,fun ea=>AW ZO (hT ht)⟩
theorem FG {B D:Addr} (F:Fun K "_law_by_base" "_law_by_base" Au f fd) (mi:mg "isinstance"=none) (mV:mg "ValueError"=none) (hD:mg "FloorError"=some (.ref D)) (xB:PySem.W.excIn K B [.type "ValueError",.type "Exception",.type "BaseException",.type "object"] "ValueError.__new__"=true) (xD:PySem.W.excIn K D [.type "ValueError",.type "Exception",.type "BaseException",.type "object"] "ValueError.__new__"=true) (u:Bi K B D=true) (FR:DfX P w K mg base "read" HA 5 (HP B)):FnOk P w K mg base CX0 6 f fd Bm (BD K Rz):=by
 refine DM (k:=5) F E7 (fun ds G R h=>?_) (fun BO A outer s H E ds G R hr h=>?_)
 ·obtain ⟨d,rfl,_⟩:=h;rfl
 obtain ⟨d,rfl,ok,no,hR⟩:=h
 refine Vi (RX:=fun cls G'=>cls=.ref B/\G=G') 1 rfl rfl E7.nd (Ip (Q:=fun _ _=>False) (M0 rfl FR hr (AD (AA 0 rfl) AF) ⟨d,rfl,ok,fun F' k h w' a b c e=>no ⟨F',k,h,w',a,b,c,e⟩,fun _=>⟨rfl,rfl⟩⟩) (fun _ _ h=>h.elim)) xD PySem.F.excBase_ValueError hD ?_
 rintro cls G' ⟨rfl,rfl⟩
 exact ⟨B,_,_,rfl,xB,u,fun ea oe hc=>AW (Wx hc (List.mem_cons_self ..) xB (by decide) mi mV (AA 1 rfl)) hR⟩
def Ku (x:Str):List Dat:=[.str (Str.ofString ""),.str (Str.ofString "\n"),.str (Txt.slice x none (some (-1))),.str (x++Str.ofString "\n"),.str (Str.ofString " "++x),.non,.int 7,.lst [.str x],.str (Str.ofString ".\n"),.str (Str.ofString "<\n"),.str (Str.ofString "<<\n"),.str (x++Str.ofString ".\n")]
theorem D1 (x y:Str):(x++y).length=x.length+y.length:=by
 show (x++y).cps.size=x.cps.size+y.cps.size
 rw [<-Array.length_toList,CK,List.length_append,Array.length_toList,Array.length_toList]
theorem Bc {x:Str} (h:x.length≤1000):okT (.str x):=⟨⟨_,rfl⟩,fun y e=>by cases e;exact h⟩
theorem XE {F:List Sq} {k:Lay} {h w:Nat} (gd:Good F) (J:IsLay F k) (bx:BX k h w):∀d∈Ku (Bh (Ag k h w))++[.str (GL (Str.ofString "<>") 5++Str.ofString "\n")],okT d/\¬isT d:=by
 obtain ⟨hl,_⟩:=Ie bx
 obtain ⟨l0,c0,e0,n0⟩:=P4 (y:=Bh (Ag k h w)) ⟨F,k,h,w,gd,J,bx,rfl⟩
 have n1:(Str.ofString "\n").cps.toList=[10]:=by decide +kernel
 have n2:(Str.ofString " ").cps.toList=[32]:=by decide +kernel
 have n3:(Str.ofString ".\n").cps.toList=[46,10]:=by decide +kernel
 have m1:(Str.ofString "\n").length=1:=by decide +kernel
 have m2:(Str.ofString " ").length=1:=by decide +kernel
 have m3:(Str.ofString ".\n").length=2:=by decide +kernel
 intro d hd
 simp only [Ku,List.cons_append,List.nil_append,List.mem_cons,List.not_mem_nil,or_false]at hd
 rcases hd with rfl|rfl|rfl|rfl|rfl|rfl|rfl|rfl|rfl|rfl|rfl|rfl|rfl
 ·exact ⟨Bc (by decide +kernel),Je (by decide +kernel)⟩
 ·exact ⟨Bc (by decide +kernel),Je (by decide +kernel)⟩
 ·have e1:(Bh (Ag k h w)).cps.toList=(l0++[c0])++[10]:=by rw [e0];simp
  exact ⟨Bc (Nat.le_trans (Txt.slice_le _ _ _) (by lia)),XB (U7 e1) n0⟩
 ·refine ⟨Bc (by rw [D1,m1];lia),ar (l:=l0++[c0]) ?_⟩
  rw [CK,e0,n1];simp
 ·refine ⟨Bc (by rw [D1,m2];lia),Wl (l:=(Bh (Ag k h w)).cps.toList) ?_⟩
  rw [CK,n2];rfl
 ·exact ⟨⟨⟨_,rfl⟩,fun y e=>by cases e⟩,Jd fun y e=>by cases e⟩
 ·exact ⟨⟨⟨_,rfl⟩,fun y e=>by cases e⟩,Jd fun y e=>by cases e⟩
 ·exact ⟨⟨⟨_,rfl⟩,fun y e=>by cases e⟩,Jd fun y e=>by cases e⟩
 ·exact ⟨Bc (by decide +kernel),Je (by decide +kernel)⟩
 ·exact ⟨Bc (by decide +kernel),IK (m:=[((0,0),(0,1))]) (by decide +kernel) (.inr (.inr ⟨(0,1),by decide,by decide +kernel⟩))⟩
 ·exact ⟨Bc (by decide +kernel),IK (m:=[((0,0),(0,1)),((0,1),(0,2))]) (by decide +kernel) (.inl (by decide))⟩
 ·refine ⟨Bc (by rw [D1,m3];lia),Yk gd J bx ?_⟩
  rw [CK,n3,Ci]
 ·exact ⟨Bc (by decide +kernel),IK (m:=[((0,0),(0,1)),((0,2),(0,3)),((0,4),(0,5)),((0,6),(0,7)),((0,8),(0,9))]) (by decide +kernel) (.inr (.inl ⟨(0,9),by decide,by decide⟩))⟩
theorem Iz (F:Fun K "_law_none" "_law_none" Be f fd):FnOk P w K mg base CX0 1 f fd Cy (BD K Jk):=by
 refine DM (k:=0) F JS (fun ds G R h=>?_) (fun BO A outer s H E ds G R hr h=>?_)
 ·obtain ⟨F',k,h,w',c,rfl,_⟩:=h;rfl
 obtain ⟨F',k,h,w',c,rfl,gd,J,bx,hR⟩:=h
 obtain ⟨hl,_⟩:=Ie bx
 have nn:=XE gd J bx
 generalize hx:Bh (Ag k h w')=x at hl nn ⊢
 have m1:(Str.ofString "\n").length=1:=by decide +kernel
 have m2:(Str.ofString " ").length=1:=by decide +kernel
 have m3:(Str.ofString ".\n").length=2:=by decide +kernel
 refine AX 2 JS.nd (d:=.lst (Ku x)) (CA (ds:=Ku x) (AD AU (AD AU (AD (Ct (ol:=none) (oh:=some (-1)) (AA 0 rfl) (sz (by lia)) trivial (Q6 AE)) (AD (CI (AA 0 rfl) AU (sz (Nat.le_trans (Nat.add_le_add hl (Nat.le_of_eq m1)) (by decide)))) (AD (CI AU (AA 0 rfl) (sz (Nat.le_trans (Nat.add_le_add (Nat.le_of_eq m2) hl) (by decide)))) (AD bV (AD AE (AD (CA (AD (AA 0 rfl) AF)) (AD AU (AD AU (AD AU (AD (CI (AA 0 rfl) AU (sz (Nat.le_trans (Nat.add_le_add hl (Nat.le_of_eq m3)) (by decide)))) AF)))))))))))) (show 12≤1000 by decide)) ?_
 obtain ⟨d,hd,ay⟩:∃d∈Ku x++[.str (GL (Str.ofString "<>") 5++Str.ofString "\n")],atI (Ku x++[.str (GL (Str.ofString "<>") 5++Str.ofString "\n")]) (c%13)=some d:=by
  have h1:=Int.emod_nonneg c (b:=13) (by lia)
  have h2:=Int.emod_lt_of_pos c (b:=13) (by lia)
  have A4:(c%13).toNat<(Ku x++[Dat.str (GL (Str.ofString "<>") 5++Str.ofString "\n")]).length:=by show _<13;lia
  have e:c%13=(((c%13).toNat:Nat):Int):=by lia
  have z:=GA (List.getElem?_eq_getElem A4)
  rw [<-e]at z
  exact ⟨_,List.getElem_mem A4,z⟩
 refine AW (IW (Gy (AA 2 rfl) (CA (AD (CI (RJ (n:=5) AU AE (by decide) (by decide) (by decide +kernel)) AU (by rw [m1,Hk];exact sz (by decide +kernel))) AF)) (sz (show 12+1≤5000 by decide))) (Et (AA 1 rfl) AE (by decide)) ay) (hR d (nn d hd).1 (nn d hd).2)
theorem GX (F:Fun K "_law_spoilt" "_law_spoilt" A9 f fd) (ml:mg "len"=none) (fj:mg "list"=none) (w7:mg "reversed"=none):FnOk P w K mg base CX0 1 f fd B7 (BD K GC):=by
 refine DM (k:=0) F C1 (fun ds G R h=>?_) (fun BO A outer s H E ds G R hr h=>?_)
 ·obtain ⟨k,h,w',a,b,c,rfl,_⟩:=h;rfl
 obtain ⟨k,h,w',a,b,c,rfl,bx,hR⟩:=h
 obtain ⟨hl,SW⟩:=Ie bx
 obtain ⟨r1,r2⟩:=Vg bx
 have X7:=bx.sm
 have Gx:1≤h:=by obtain ⟨p,hp,_⟩:=bx.hh;have:=bx.box p hp;lia
 generalize hx:Bh (Ag k h w')=x at hl SW r1 r2 ⊢
 have hz:x.length≤sizeLine:=sz (by lia)
 refine AX 4 C1.nd (Et (AA 2 rfl) (SN ml (AA 0 rfl) hz) (by lia)) ?_
 refine AX 5 C1.nd (OJ (y:=chr 10) (AA 0 rfl) (PX.cast AU rfl) rfl hz ?_) ?_
 ·rw [length_partsBetween]
  have:=StrLaws.occ_length_le x (chr 10) 0 x.length (x.length+1)
  exact sz (by lia)
 generalize Txt.split x (chr 10)=ss at r1 r2 ⊢
 refine AX 6 C1.nd (Et (AA 2 rfl) (Ih (Ec (n:=ss.length) rfl ml (AA 5 rfl) (by simp [Qp])) AE) (by lia)) ?_
 have sl:∀lo hi,(Txt.slice x lo hi).length≤72:=fun lo hi=>Nat.le_trans (Txt.slice_le x lo hi) hl
 refine BY (Br (Cm (AA 1 rfl) AE)) (fun _=>AW (CI (Ct (ol:=none) (oh:=some _) (AA 0 rfl) hz trivial (AA 4 rfl)) (Ct (ol:=some _) (oh:=none) (AA 0 rfl) hz (BA (AA 4 rfl) AE) trivial) (sz (Nat.le_trans (Nat.add_le_add (sl _ _) (sl _ _)) (by decide)))) (hR _ (by rw [D1];exact Nat.le_trans (Nat.add_le_add (sl _ _) (sl _ _)) (by decide)))) (fun _=>AQ ?_)
 refine BY (Br (Cm (AA 1 rfl) AE)) (fun _=>AW (CI (Ct (ol:=none) (oh:=some _) (AA 0 rfl) hz trivial (BA (AA 4 rfl) AE)) (Ct (ol:=some _) (oh:=none) (AA 0 rfl) hz (AA 4 rfl) trivial) (sz (Nat.le_trans (Nat.add_le_add (sl _ _) (sl _ _)) (by decide)))) (hR _ (by rw [D1];exact Nat.le_trans (Nat.add_le_add (sl _ _) (sl _ _)) (by decide)))) (fun _=>AQ ?_)
 have s7:(Str.ofString "<>^v. \n").cps.toList=[60,62,94,118,46,32,10]:=by decide +kernel
 obtain ⟨n,_,ay⟩:∃n∈(Str.ofString "<>^v. \n").cps.toList,atI (Str.ofString "<>^v. \n").cps.toList (c%7)=some n:=by
  rw [s7]
  exact bE (l:=[60,62,94,118,46,32,10]) (by decide) c
 have a1:∀lo hi m,(Txt.slice x lo hi++chr m).length≤73:=fun lo hi m=>by rw [D1];exact Nat.add_le_add (sl _ _) (Nat.le_refl 1)
 refine BY (Br (Cm (AA 1 rfl) AE)) (fun _=>AW (CI (CI (Ct (ol:=none) (oh:=some _) (AA 0 rfl) hz trivial (AA 4 rfl)) (Zn AU (Et (AA 3 rfl) AE (by decide)) (sz (by decide +kernel)) ay) (sz (Nat.le_trans (Nat.add_le_add (sl _ _) (Nat.le_refl 1)) (by decide)))) (Ct (ol:=some _) (oh:=none) (AA 0 rfl) hz (BA (AA 4 rfl) AE) trivial) (sz (Nat.le_trans (Nat.add_le_add (a1 _ _ _) (sl _ _)) (by decide)))) (hR _ (by rw [D1];exact Nat.le_trans (Nat.add_le_add (a1 _ _ _) (sl _ _)) (by decide)))) (fun _=>AQ ?_)
 have jo:∀La:List Str,La.length≤20->(∀s∈La,s.length≤8)->JoinOk (chr 10) La=true/\(Txt.join (chr 10) La).length≤1000:=fun La q1 q2=>bW q2 q1
 have cat:∀(lo hi Xz MN:Option Int),∃La:List Str,LN (ss.map .str) lo hi++LN (ss.map .str) Xz MN=La.map .str/\La.length≤20/\∀s∈La,s.length≤8:=fun lo hi Xz MN=>by
  obtain ⟨s1,e1,l1,m1⟩:=Hj ss lo hi
  obtain ⟨s2,e2,l2,m2⟩:=Hj ss Xz MN
  refine ⟨s1++s2,by rw [e1,e2,List.map_append],by rw [List.length_append];lia,fun s hs=>?_⟩
  rcases List.mem_append.mp hs with q|q
  ·exact r2 _ (m1 _ q)
  ·exact r2 _ (m2 _ q)
 have cl:∀(lo hi:Option Int),(LN (ss.map .str) lo hi).length≤9:=fun lo hi=>by
  obtain ⟨s1,e1,l1,_⟩:=Hj ss lo hi
  rw [e1,List.length_map];lia
 have sp:=b%((ss.length:Int)-1)
 refine BY (Br (Cm (AA 1 rfl) AE)) (fun _=>?_) (fun _=>AQ ?_)
 ·obtain ⟨La,e,q1,q2⟩:=cat none (some (b%((ss.length:Int)-1))) (some (b%((ss.length:Int)-1)+1)) none
  exact AW (HK (ss:=La) (x:=chr 10) (PX.cast AU rfl) (PX.cast (Gy (EC (ol:=none) (oh:=some _) (AA 5 rfl) trivial (AA 6 rfl)) (EC (ol:=some _) (oh:=none) (AA 5 rfl) (BA (AA 6 rfl) AE) trivial) (sz (Nat.le_trans (Nat.add_le_add (cl _ _) (cl _ _)) (by decide)))) (by rw [e])) (jo La q1 q2).1) (hR _ (jo La q1 q2).2)
 refine BY (Br (Cm (AA 1 rfl) AE)) (fun _=>?_) (fun _=>AQ ?_)
 ·obtain ⟨La,e,q1,q2⟩:=cat none (some (b%((ss.length:Int)-1)+1)) (some (b%((ss.length:Int)-1))) none
  exact AW (HK (ss:=La) (x:=chr 10) (PX.cast AU rfl) (PX.cast (Gy (EC (ol:=none) (oh:=some _) (AA 5 rfl) trivial (BA (AA 6 rfl) AE)) (EC (ol:=some _) (oh:=none) (AA 5 rfl) (AA 6 rfl) trivial) (sz (Nat.le_trans (Nat.add_le_add (cl _ _) (cl _ _)) (by decide)))) (by rw [e])) (jo La q1 q2).1) (hR _ (jo La q1 q2).2)
 ·obtain ⟨s1,e1,l1,m1⟩:=Hj ss none (some (-1))
  have q1:(s1.reverse++[Str.ofString ""]).length≤20:=by rw [List.length_append,List.length_reverse];simp;lia
  have q2:∀s∈s1.reverse++[Str.ofString ""],s.length≤8:=fun s hs=>by
   rcases List.mem_append.mp hs with q|q
   ·exact r2 _ (m1 _ (List.mem_reverse.mp q))
   ·rw [List.mem_singleton.mp q];decide +kernel
  refine AW (HK (ss:=s1.reverse++[Str.ofString ""]) (x:=chr 10) (PX.cast AU rfl) (PX.cast (Gy (QM fj w7 rfl (EC (ol:=none) (oh:=some (-1)) (AA 5 rfl) trivial (Q6 AE))) (CA (AD AU AF)) (sz ?_)) ?_) (jo _ q1 q2).1) (hR _ (jo _ q1 q2).2)
  ·rw [List.length_reverse]
   exact Nat.le_trans (Nat.add_le_add (cl _ _) (Nat.le_refl 1)) (by decide)
  ·rw [e1,List.map_append,List.map_reverse];rfl
theorem Ej (F:Fun K "_law_is_floor" "_law_is_floor" AZ f fd) (mi:mg "isinstance"=none) (mt:mg "tuple"=none) (ml:mg "len"=none) (fj:mg "list"=none) (tp:mg "sorted"=none) (ms:mg "set"=none):FnOk P w K mg base CX0 1 f fd BW (BD K GG):=by
 refine DM (k:=0) F JW (fun ds G R h=>?_) (fun BO A outer s H E ds G R hr h=>?_)
 ·obtain ⟨F',rfl,_⟩:=h;rfl
 obtain ⟨F',rfl,gd,hR⟩:=h
 have sM:=gd.len
 have Gx:0<F'.length:=List.length_pos_iff.mpr gd.ne
 have hu:(A.deeper (envOfC "_law_is_floor" (AB AZ) s.heap.objs.size f BO)).units+20<cLine:=by have:=hr.units;lia
 have qa:(A.deeper (envOfC "_law_is_floor" (AB AZ) s.heap.objs.size f BO)).units+9<cLine:=by lia
 refine BY (p:=false) (PXT.cast (Ex (BP (B1 (D7 (T:="tuple") (T':="tuple") mi mt (AA 0 rfl)))) fun _=>Ex (BP (HG AE (Ec (n:=F'.length) (by rfl) ml (AA 0 rfl) (Rm _ _)) AE)) fun _=>Hn (Br (NF qa (PW (by rfl) fj Boot.«list» (AA 0 rfl)) (Lb tp ms hu rfl (AA 0 rfl) fun p hp=>Sj (gd.inn p hp)) rfl ?_ ?_))).t ?_) (fun h=>absurd h (by decide)) (fun _=>AQ ?_)
 ·exact DN F' 7
 ·exact DN _ 7
 ·rw [TK gd.up,decide_eq_true (show (1:Int)≤(F'.length:Int) by lia),decide_eq_true (show (F'.length:Int)≤24 by lia)]
  show (false||(false||!eqL (F'.map sq) (F'.map sq)))=false
  rw [Ry]
  rfl
 refine AW (N5 (VL (d1:=.lst []) qa (PX.cast (HJ (Nc:=ED) (caps:=Ig) (l:=F'.map sq) (f:=CT 0) (via sq fun q=>!(decide (0≤q.1)&&decide (q.1≤7))||!(decide (0≤q.2)&&decide (q.2≤7))) id
  (CO (psc:=AB AZ) (PN:=E9) (by decide +kernel) rfl rfl) rfl
  (Im (AA 0 rfl) ⟨rfl,rfl⟩)
  (fun C s' H' fp=>Aj 0 (show ED.Nodup by decide +kernel)) (BI rfl) (by rw [List.length_map];lia) ?_) ?_) (CA AF) rfl rfl)) hR
 ·intro C s' H' fp G2 d hd kn
  obtain ⟨y,_,rfl⟩:=List.mem_map.mp hd
  rw [Mi Gj]
  exact ⟨_,rfl,(Ex (BP (HG AE (Am (AA 0 rfl) AE rfl) AE)) fun _=>Hn (BP (HG AE (Am (AA 0 rfl) AE rfl) AE))).t,fun _=>AA 0 rfl⟩
 ·congr 1
  rw [List.map_eq_nil_iff,List.filter_eq_nil_iff]
  intro d hd
  obtain ⟨y,hy,rfl⟩:=List.mem_map.mp hd
  rw [Mi Gj]
  have:=gd.inn y hy
  simp [this]
theorem cB {B:Addr} (F:Fun K "law" "law" EE f fd) (ml:mg "len"=none) (FF:Df P w K mg base "_law_floor" CY 2 Js) (FC:Df P w K mg base "_law_cell" Bz 1 Ij) (FA:Df P w K mg base "_law_all" DP 15 RW) (FL:Df P w K mg base "_law_shown" CW 1 Dw) (FR:DfX P w K mg base "read" HA 5 (HP B)) (FX:Df P w K mg base "_law_refused" Bl 6 Nl) (FB:Df P w K mg base "_law_by_base" Bm 6 Rz) (FN:Df P w K mg base "_law_none" Cy 1 Jk) (FS:Df P w K mg base "_law_spoilt" B7 1 GC) (FI:Df P w K mg base "_law_is_floor" BW 1 GG) (FY:Df P w K mg base "_law_is_laying" BF 2 Jg):FnOk P w K mg base CX0 16 f fd ZA (BD K NM):=by
 refine DM (k:=15) F FT (fun ds G R h=>?_) (fun BO A outer s H E ds G R hr h=>?_)
 ·obtain ⟨ns,rfl,_⟩:=h;rfl
 obtain ⟨ns,rfl,hR⟩:=h
 refine Cd 1 FT.nd (A6 FF (hr.mono (by lia)) (AD (AA 0 rfl) (AD AE AF)) ⟨ns,4,rfl,fun q gd=>?_⟩)
 have sM:=gd.len
 have yv:0<q.length:=List.length_pos_iff.mpr gd.ne
 refine Cd 2 FT.nd (A6 FA (hr.mono (by lia)) (AD (AA 1 rfl) AF) ⟨q,rfl,gd.ne,gd.up,gd.len,?_⟩)
 have m1:(Str.ofString "\n").length=1:=by decide +kernel
 have m4:(Str.ofString ".").length=1:=by decide +kernel
 refine BY (p:=(Eh q).isEmpty) ?_ (fun hp=>?_) (fun hp=>AQ ?_)
 ·refine PXT.cast (BP (IY (p:=!(Eh q).isEmpty) (AA 2 rfl) ?_)) (Bool.not_not _)
  show some (!((Eh q).map lay).isEmpty)=_
  rw [List.isEmpty_map]
 ·have hlen:(GL (Str.ofString ".") q.length++Str.ofString "\n").length≤1000:=by rw [D1,Hk,m1,m4];lia
  have oA:∀c∈(GL (Str.ofString ".") q.length++Str.ofString "\n").cps.toList,c=46\/c=10:=fun c hc=>by
   rw [CK,IX,show (Str.ofString "\n").cps.toList=[10] by decide +kernel,show (Str.ofString ".").cps.toList=[46] by decide +kernel]at hc
   rcases List.mem_append.mp hc with z|z
   ·obtain ⟨l,h1,h2⟩:=List.mem_flatten.mp z
    rw [(List.mem_replicate.mp h1).2]at h2
    exact .inl (by simpa using h2)
   ·exact .inr (by simpa using z)
  exact Cg (A6 FX (hr.mono (by lia)) (AD (CI (RJ (n:=q.length) AU (Ec (n:=q.length) rfl ml (AA 1 rfl) (Rm _ _)) (by lia) (by lia) (by decide +kernel)) AU (sz (by rw [Hk,m1,m4];lia))) AF) ⟨_,rfl,Bc hlen,fun h=>absurd h (Je oA),fun _=>hR⟩)
 have Co:Eh q≠[]:=by rintro h;rw [h]at hp;cases hp
 have Gx:0<(Eh q).length:=List.length_pos_iff.mpr Co
 have dH:∀c:Int,∃l,IsLay q l/\atI ((Eh q).map lay) (c%((Eh q).length:Int))=some (lay l):=by
  intro c
  have h1:=Int.emod_nonneg c (b:=((Eh q).length:Int)) (by lia)
  have h2:=Int.emod_lt_of_pos c (b:=((Eh q).length:Int)) (by lia)
  have A4:(c%((Eh q).length:Int)).toNat<(Eh q).length:=by lia
  obtain ⟨l,hl⟩:∃l,(Eh q)[(c%((Eh q).length:Int)).toNat]?=some l:=⟨_,List.getElem?_eq_getElem A4⟩
  refine ⟨l,(Xr gd.up).mp (List.mem_of_getElem? hl),?_⟩
  have e:c%((Eh q).length:Int)=(((c%((Eh q).length:Int)).toNat:Nat):Int):=by lia
  rw [e]
  exact Jp lay (GA hl)
 obtain ⟨k,J,lz⟩:=dH (CU ns 0)
 obtain ⟨h,w',bx⟩:=Y1 gd J
 have Ue:=IC J.toCov
 have eC:(AM k).Nodup:=J.pm.nodup_iff.mpr gd.nodup
 have cell:∀{ρ:Rho} {G:Gs} {p1 p2 p3 p4:Pos} {j:Nat} (k:Nat),ρ[0]?=some (some (.scr ns))->PX (El CX0 P w K mg base Yz "law" (AB EE) f BO A outer s H E).nox ρ G (.Call (.Name "_law_cell" p1) [.Name "_law_script" p2,.Constant (.int (k:Int)) j p3] [] p4) (.int (CU ns k)):=fun k h=>A6 FC (hr.mono (by lia)) (AD (AA 0 h) (AD AE AF)) ⟨ns,k,rfl,rfl,rfl⟩
 refine AX 3 FT.nd (A6 FL (hr.mono (by lia)) (AD (IW (AA 2 rfl) (Et (cell 0 rfl) (Ec (n:=(Eh q).length) rfl ml (AA 2 rfl) (by simp [Qp])) (by lia)) lz) AF) ⟨k,h,w',rfl,eC,by lia,bx,rfl,rfl⟩) ?_
 refine AX 4 FT.nd (Et (cell 1 rfl) AE (by decide)) ?_
 refine BY (Br (Cm (AA 4 rfl) AE)) (fun _=>?_) (fun _=>AQ ?_)
 ·refine Cd 5 FT.nd (A6 FN (hr.mono (by lia)) (AD (AA 3 rfl) (AD (cell 2 rfl) AF)) ⟨q,k,h,w',_,rfl,gd,J,bx,fun d ok no=>?_⟩)
  exact AW (Dj (A6 FX (hr.mono (by lia)) (AD (AA 5 rfl) AF) ⟨d,rfl,ok,fun h=>absurd h no,fun _=>⟨rfl,rfl⟩⟩) fun _=>IQ (A6 FB (hr.mono (by lia)) (AD (AA 5 rfl) AF) ⟨d,rfl,ok,no,rfl,rfl⟩)) hR
 refine Cd 5 FT.nd (A6 FS (hr.mono (by lia)) (AD (AA 3 rfl) (AD (AA 4 rfl) (AD (cell 2 rfl) (AD (cell 3 rfl) AF)))) ⟨k,h,w',_,_,_,rfl,bx,fun y hy=>?_⟩)
 by_cases ht:isT (.str y)
 ·refine BY (p:=false) (B1 (A6 FX (hr.mono (by lia)) (AD (AA 5 rfl) AF) ⟨_,rfl,Bc hy,fun _=>⟨rfl,rfl⟩,fun h=>absurd ht h⟩)) (fun h=>absurd h (by decide)) (fun _=>AQ ?_)
  obtain ⟨F2,k2,h2,w2,Pp,J2,UX,e2⟩:=ht
  injection e2 with e2
  subst e2
  have Dr:=IC J2.toCov
  have xk:=Pp.len
  have vS:(AM k2).Nodup:=J2.pm.nodup_iff.mpr Pp.nodup
  refine AX 6 FT.nd (d:=.tup [fl F2,lay k2]) (Sw (M0 rfl FR (hr.mono (by lia)) (AD (AA 5 rfl) AF) ⟨_,rfl,Bc hy,fun F3 k3 h3 w3 sU J3 uh e3=>?_,fun h=>h ⟨F2,k2,h2,w2,Pp,J2,UX,rfl⟩⟩)) ?_
  ·injection e3 with e3
   have b2:=TU Pp J2 UX
   have b3:=TU sU J3 uh
   rw [<-e3,b2]at b3
   subst b3
   have:F3=F2:=by rw [<-Hw sU.up J3.toCov,Hw Pp.up J2.toCov]
   subst this
   exact ⟨rfl,rfl⟩
  refine AW (Dj (A6 FI (hr.mono (by lia)) (AD (Am (AA 6 rfl) AE rfl) AF) ⟨F2,rfl,Pp,rfl,rfl⟩) fun _=>Dj (A6 FY (hr.mono (by lia)) (AD (Am (AA 6 rfl) AE rfl) (AD (Am (AA 6 rfl) AE rfl) AF)) ⟨F2,k2,rfl,Pp.up,Pp.len,J2,rfl,rfl⟩) fun _=>IQ (N5 (My (A6 FL (hr.mono (by lia)) (AD (Am (AA 6 rfl) AE rfl) AF) ⟨k2,h2,w2,rfl,vS,by lia,UX,rfl,rfl⟩) (AA 5 rfl)))) ?_
  rw [beq_self_eq_true]
  exact hR
 ·refine BY (p:=true) (B1 (A6 FX (hr.mono (by lia)) (AD (AA 5 rfl) AF) ⟨_,rfl,Bc hy,fun h=>absurd h ht,fun _=>⟨rfl,rfl⟩⟩)) (fun _=>?_) (fun h=>absurd h (by decide))
  exact Cg (A6 FB (hr.mono (by lia)) (AD (AA 5 rfl) AF) ⟨_,rfl,Bc hy,ht,hR⟩)
end
end TF
namespace TF
open PySem PySem.Spec L2
open PyProof.Rows hiding St RelV
section
variable {P:Program}{w:World}{K:PySem.W.Frag}{mg:Str->Option Value}{base:Heap}{f:Addr}{fd:FuncData}
theorem JQ (F:Fun K "_law_cell" "_law_cell" Bj f fd) (ml:mg "len"=none):FnOk P w K mg base CX0 1 f fd Bz (BD K Ij):=by
 refine DM (k:=0) F Pl (fun ds G R h=>?_) (fun BO A outer s H E ds G R hr h=>?_)
 ·obtain ⟨ns,k,rfl,_⟩:=h;rfl
 obtain ⟨ns,k,rfl,hR⟩:=h
 refine BY (Br (aS (AA 1 rfl) (Ec rfl ml (AA 0 rfl) rfl))) (fun hp=>?_) (fun hp=>?_)
 ·have A4:k<ns.length:=by have:=of_decide_eq_true hp;lia
  refine AW (cD (AA 0 rfl) (AA 1 rfl) (GA (List.getElem?_eq_getElem A4))) ?_
  have:CU ns k=ns[k]:=by unfold CU;rw [List.getD_eq_getElem?_getD,List.getElem?_eq_getElem A4];rfl
  rw [<-this];exact hR
 ·refine AQ (AW AE ?_)
  have Ll:ns.length≤k:=by have:=of_decide_eq_false hp;lia
  have:CU ns k=0:=by unfold CU;rw [List.getD_eq_getElem?_getD,List.getElem?_eq_none Ll];rfl
  rw [this]at hR;exact hR
theorem Kl (F:Fun K "_law_mix" "_law_mix" B8 f fd):FnOk P w K mg base CX0 1 f fd Cz (BD K N8):=by
 refine DM (k:=0) F Qn (fun ds G R h=>?_) (fun BO A outer s H E ds G R hr h=>?_)
 ·obtain ⟨c,p,m,rfl,_⟩:=h;rfl
 obtain ⟨c,p,m,rfl,hp,hm,hR⟩:=h
 exact AW (Et (Et (Qi (AA 0 rfl) AE (.inr (by decide))) (AA 1 rfl) hp) (AA 2 rfl) hm) hR
theorem Fl {X:Cx} {ρ:Rho} {G:Gs} {pos p:Pos} {ns:List Int} {a b:Expr} {k:Nat} (FL:Df X.prog X.w X.K X.mg X.base "_law_cell" Bz 1 Ij) (hr:Room 1 X.A) (ha:PX X ρ G a (.scr ns)) (hb:PX X ρ G b (.int (k:Nat))) (hg:Gl X "_law_cell":=by rfl)
  (he:starEach (a::[b]) X.env=(false,eval a X.env)::starEach [b] X.env:=by rfl) (he2:starEach [b] X.env=(false,eval b X.env)::starEach [] X.env:=by rfl) (hpl:(backTo pos (starEach [b] X.env)).any (·.1)=false:=by rfl):PX X ρ G (.Call (.Name "_law_cell" p) [a,b] [] pos) (.int (CU ns k)):=
 A6 FL hr (AD ha (AD hb AF he2) he) ⟨ns,k,rfl,rfl,rfl⟩ hg (by decide) he hpl
theorem DG {X:Cx} {ρ:Rho} {G:Gs} {pos p:Pos} {a b c:Expr} {x y:Int} {m n:Nat} (FM:Df X.prog X.w X.K X.mg X.base "_law_mix" Cz 1 N8) (hr:Room 1 X.A) (ha:PX X ρ G a (.int x)) (hb:PX X ρ G b (.int y)) (hc:PX X ρ G c (.int (m:Nat))) (hy:0<y) (hm:0<m) (hv:UC x y m=(n:Nat)) (hg:Gl X "_law_mix":=by rfl)
  (he:starEach [a,b,c] X.env=(false,eval a X.env)::starEach [b,c] X.env:=by rfl) (he2:starEach [b,c] X.env=(false,eval b X.env)::starEach [c] X.env:=by rfl) (gP:starEach [c] X.env=(false,eval c X.env)::starEach [] X.env:=by rfl) (hpl:(backTo pos (starEach [b,c] X.env)).any (·.1)=false:=by rfl):PX X ρ G (.Call (.Name "_law_mix" p) [a,b,c] [] pos) (.int (n:Nat)):=
 A6 FM hr (AD ha (AD hb (AD hc AF gP) he2) he) ⟨x,y,m,rfl,hy,by lia,by rw [hv];exact ⟨rfl,rfl⟩⟩ hg (by decide) he hpl
theorem He (F:Fun K "_law_floor" "_law_floor" Ao f fd) (ml:mg "len"=none) (mr:mg "range"=none) (mt:mg "tuple"=none) (mx:mg "max"=none) (mn:mg "min"=none)
  (FL:Df P w K mg base "_law_cell" Bz 1 Ij) (FM:Df P w K mg base "_law_mix" Cz 1 N8):FnOk P w K mg base CX0 2 f fd CY (BD K Js):=by
 refine DM (k:=1) F AV (fun ds G R h=>?_) (fun BO A outer s H E ds G R hr h=>?_)
 ·obtain ⟨ns,k,rfl,_⟩:=h;rfl
 obtain ⟨ns,k,rfl,hR⟩:=h
 have hu:(A.deeper (envOfC "_law_floor" (AB Ao) s.heap.objs.size f BO)).units+9<cLine:=by have:=hr.units;lia
 obtain ⟨r0,zN,wW⟩:=DH (CU ns k) 9973 4 (by decide)
 obtain ⟨w0,yz,um⟩:=DH (CU ns k) 9967 5 (by decide)
 obtain ⟨b0,yq,vT⟩:=DH (CU ns k) 9901 8 (by decide)
 obtain ⟨q0,yw,uT⟩:=DH (CU ns k) 9887 4 (by decide)
 refine AX 2 AV.nd (Fl FL hr (AA 0 rfl) (AA 1 rfl)) ?_
 refine AX 3 AV.nd (PX.cast (d':=.int ((1+r0:Nat):Int)) (BA AE (DG (m:=4) FM hr (AA 2 rfl) AE AE (by decide) (by decide) wW)) rfl) ?_
 refine AX 4 AV.nd (PX.cast (d':=.int ((1+w0:Nat):Int)) (BA AE (DG (m:=5) FM hr (AA 2 rfl) AE AE (by decide) (by decide) um)) rfl) ?_
 refine Rg (fun ρ' G'=>G=G'/\∃r wd:Nat,M6 r wd/\ρ'=[some (.scr ns),some (.int k),some (.int (CU ns k)),some (.int (r:Nat)),some (.int (wd:Nat)),none,none,none,none,none,none,none,none,none])
  (Br (Cm (DG (m:=8) FM hr (AA 2 rfl) AE AE (by decide) (by decide) vT) AE)) (fun hp=>?_) (fun hp=>?_) (fun ρ' G' hM=>?_)
 ·obtain ⟨r1,uf,aP⟩:∃r1:Nat,atI [Dat.int 2,.int 3,.int 8,.int 6] ((q0:Nat):Int)=some (.int (r1:Nat))/\0<r1/\M6 r1 (24 / r1):=by
   have:q0=0\/q0=1\/q0=2\/q0=3:=by lia
   rcases this with rfl|rfl|rfl|rfl
   ·exact ⟨2,rfl,by decide,.inr (.inl ⟨rfl,rfl⟩)⟩
   ·exact ⟨3,rfl,by decide,.inr (.inr (.inl ⟨rfl,rfl⟩))⟩
   ·exact ⟨8,rfl,by decide,.inr (.inr (.inr (.inl ⟨rfl,rfl⟩)))⟩
   ·exact ⟨6,rfl,by decide,.inr (.inr (.inr (.inr ⟨rfl,rfl⟩)))⟩
  refine AX 3 AV.nd (IW (CA (AD AE (AD AE (AD AE (AD AE AF))))) (DG (m:=4) FM hr (AA 2 rfl) AE AE (by decide) (by decide) uT) uf) ?_
  have hb:r1≤8:=by rcases aP.2 with h|h|h|h|h<;>lia
  refine AX 4 AV.nd (PX.cast (d':=.int ((24 / r1:Nat):Int)) (YX AE (AA 3 rfl) ⟨by lia,by lia⟩) rfl) (AQ ⟨rfl,r1,24 / r1,aP.2,rfl⟩)
 ·exact AQ ⟨rfl,1+r0,1+w0,.inl ⟨by lia,by lia,by lia,by lia⟩,rfl⟩
 obtain ⟨rfl,r,wd,gK,rfl⟩:=hM
 have zF:r≤8/\1≤r:=by rcases gK with h|h|h|h|h<;>lia
 have ur:wd≤12/\1≤wd:=by rcases gK with h|h|h|h|h<;>lia
 obtain ⟨hmul,Gx⟩:=UH gK
 obtain ⟨dn,zM,xJ⟩:=DH (CU ns (k+1)) 9949 (9-r) (by lia)
 obtain ⟨rt,y9,xV⟩:=DH (CU ns (k+1)) 9941 (max 1 (9-wd)) (by lia)
 have tm:rt+min wd 8≤8:=by lia
 refine AX 5 AV.nd (DG (m:=9-r) FM hr (Fl (k:=k+1) FL hr (AA 0 rfl) (PX.cast (BA (AA 1 rfl) AE) rfl)) AE (PX.cast (Ih AE (AA 3 rfl)) (by congr 1;lia)) (by decide) (by lia) xJ) ?_
 refine AX 6 AV.nd (DG (m:=max 1 (9-wd)) FM hr (Fl (k:=k+1) FL hr (AA 0 rfl) (PX.cast (BA (AA 1 rfl) AE) rfl)) AE (PX.cast (Yl rfl mx AE (Ih AE (AA 4 rfl))) (by congr 1;lia)) (by decide) (by lia) xV) ?_
 refine AX 7 AV.nd (CA AF) ?_
 refine Ce (l:=A8 0 r) (fun i ρ' G'=>G=G'/\i≤r/\∃x,ρ'=[some (.scr ns),some (.int k),some (.int (CU ns k)),some (.int (r:Nat)),some (.int (wd:Nat)),some (.int (dn:Nat)),some (.int (rt:Nat)),some (.lst ((Kt i (min wd 8) dn rt).map sq)),x,none,none,none,none,none]) PassesOwn.never rfl
  (Cw rfl mr (AA 3 rfl) (by lia) (by lia) ⟨by rw [Int.toNat_natCast],rfl,Nat.zero_le _,none,rfl⟩) (Aj 8 AV.nd) ?_ ?_
 ·rintro i dd ρ' G' hd ⟨rfl,hi,x,rfl⟩
  obtain ⟨A4,rfl⟩:=De hd
  refine ⟨_,rfl,?_⟩
  refine AX 7 AV.nd (Gy (AA 7 rfl) (FQ (Nc:=Gh) (caps:=Lj) (l:=A8 0 (min wd 8)) (f:=CT 0) (fun x=>match x with|.int j=>sq ((dn:Int)+(0+(i:Nat)),(rt:Int)+j)|_=>.non)
   (CO (psc:=AB Ao) (PN:=Fh) (by decide +kernel) rfl rfl) rfl (Cw rfl mr (PX.cast (d':=.int ((min wd 8:Nat):Int)) (Xp rfl mn (AA 4 rfl) AE) (by congr 1;lia)) (by lia) (by lia) ⟨by rw [Int.toNat_natCast],rfl⟩)
   (fun C s' H' fp=>Aj 0 (show Gh.Nodup by decide +kernel)) (BI rfl) (by rw [Bu];lia) ?_) ?_) (AQ ⟨rfl,A4,some (.int (0+(i:Nat))),?_⟩)
  ·intro C s' H' fp G' x hx _
   obtain ⟨j,_,rfl⟩:=Gq hx
   exact ⟨_,rfl,CD (AD (BA (AA 1 rfl) (AA 2 rfl)) (AD (BA (AA 3 rfl) (AA 0 rfl)) AF))⟩
  ·rw [List.length_map,List.length_map,Jv,Bu]
   have:i*min wd 8≤8*8:=Nat.mul_le_mul (by lia) (by lia)
   exact sz (by lia)
  ·refine congrArg (fun z=>[some (.scr ns),some (.int k),some (.int (CU ns k)),some (.int (r:Nat)),some (.int (wd:Nat)),some (.int (dn:Nat)),some (.int (rt:Nat)),some (Dat.lst z),some (.int (0+(i:Nat))),none,none,none,none,none]) ?_
   rw [L7,List.map_append]
   congr 1
   unfold A8
   rw [List.map_map,List.map_map]
   refine List.map_congr_left fun j _=>?_
   simp [Function.comp,sq]
 rintro ρ' G' ⟨rfl,_,x,rfl⟩
 rw [Bu]
 generalize hL:Kt r (min wd 8) dn rt=L
 have qZ:L.length=r*min wd 8:=by rw [<-hL,Jv]
 have gd:∀F:List Sq,F.Sublist L->F≠[]->Good F:=fun F h1 h2=>WG (r:=r) (w:=min wd 8) (d:=dn) (e:=rt) hmul (by lia) tm (by rw [hL];exact h1) h2
 have pl:∀l:List Sq,l.length≤6->(l.map sq).all (AG 8)=true:=fun l _=>DN l 7
 refine KC 9 AV.nd AF (fun p hG=>?_)
 obtain ⟨nk,zE,yV⟩:=DH (CU ns (k+2)) 9931 4 (by decide)
 refine Ce (l:=A8 0 nk) (fun i ρ' VA=>∃(gone:List Sq) (y1 y2 y3:Option Dat),gone.length≤2*i/\VA=put G p (.lst (gone.map sq))/\ρ'=[some (.scr ns),some (.int k),some (.int (CU ns k)),some (.int (r:Nat)),some (.int (wd:Nat)),some (.int (dn:Nat)),some (.int (rt:Nat)),some (.lst (L.map sq)),x,some (.fn p),y1,y2,y3,none]) PassesOwn.never rfl
  (Cw rfl mr (DG (m:=4) FM hr (Fl (k:=k+2) FL hr (AA 0 rfl) (PX.cast (BA (AA 1 rfl) AE) rfl)) AE AE (by decide) (by decide) yV) (by lia) (by lia) ⟨by rw [Int.toNat_natCast],[],none,none,none,Nat.le_refl _,rfl,rfl⟩) (Aj 10 AV.nd) ?_ ?_
 ·rintro i dd ρ' VA hd ⟨gone,y1,y2,y3,gc,rfl,rfl⟩
  obtain ⟨A4,rfl⟩:=De hd
  refine ⟨_,rfl,?_⟩
  generalize hseed:CU ns (k+3+i)+17*(0+(i:Int))*(0+(i:Int))=seed
  refine AX 11 AV.nd (PX.cast (d':=.int seed) (BA (Fl (k:=k+3+i) FL hr (AA 0 rfl) (PX.cast (BA (BA (AA 1 rfl) AE) (AA 10 rfl)) (by congr 1;lia))) (Qi (Qi AE (AA 10 rfl) (.inl (by decide))) (AA 10 rfl) (.inr (by constructor<;>lia)))) (by rw [hseed])) ?_
  obtain ⟨ix,yi,wm⟩:=DH seed 9929 (r*min wd 8) Gx
  obtain ⟨c3,yx,tH⟩:=DH seed 9923 3 (by decide)
  have u6:ix<L.length:=by lia
  refine AX 12 AV.nd (IW (AA 7 rfl) (DG (m:=r*min wd 8) FM hr (AA 11 rfl) AE (PX.cast (Ec rfl ml (AA 7 rfl) rfl) (by rw [List.length_map,qZ])) (by decide) Gx wm) (Jp sq (GA (List.getElem?_eq_getElem u6)))) ?_
  refine Eg (AA 9 rfl) (AA 12 rfl) AL (by rw [List.length_map];exact sz1 (by lia)) ?_
  rw [BQ]
  refine BY (Br (Qw (DG (m:=3) FM hr (AA 11 rfl) AE AE (by decide) (by decide) tH) AE)) (fun hp=>?_) (fun hp=>AQ (AQ ?_))
  ·refine Eg (d:=sq (L[ix].1,L[ix].2+1)) (AA 9 rfl) (CD (AD (Am (AA 12 rfl) AE rfl) (AD (BA (Am (AA 12 rfl) AE rfl) AE) AF))) AL (by rw [List.length_append,List.length_map];exact sz1 (by simp;lia)) (AQ (AQ ?_))
   rw [BQ]
   refine ⟨gone++[L[ix],(L[ix].1,L[ix].2+1)],_,_,_,by simp;lia,?_,rfl⟩
   simp
  ·refine ⟨gone++[L[ix]],_,_,_,by simp;lia,?_,rfl⟩
   simp
 rintro ρ' VA ⟨gone,y1,y2,y3,gc,rfl,rfl⟩
 rw [Bu]at gc
 refine AX 13 AV.nd (PX.cast (d':=fl (L.filter fun q=>!gone.contains q)) (EL rfl mt Boot.«tuple» (HJ (Nc:=GU) (caps:=Le) (l:=L.map sq) (f:=CT 0) (fun d=>!((gone.map sq).any fun e=>eqD e d)) id
  (CO (psc:=AB Ao) (PN:=Fh) (by decide +kernel) rfl rfl) rfl (RK (AA 7 rfl) ⟨rfl,rfl⟩)
   (fun C s' H' fp=>Aj 0 (show GU.Nodup by decide +kernel)) (BI rfl) (by rw [List.length_map];lia) ?_)) ?_) ?_
 ·intro C s' H' fp G2 d hd kn
  obtain ⟨q,_,rfl⟩:=List.mem_map.mp hd
  exact ⟨_,rfl,Br (Km hu (AA 0 rfl) (AA 1 rfl) (.inr (.inr ⟨p,rfl,kn _ _ AL⟩)) (A7 q 7) (pl gone (by lia))),fun _=>AA 0 rfl⟩
 ·rw [Qv]
  unfold fl
  congr 3
  funext q
  rw [Py]
 generalize hF:(L.filter fun q=>!gone.contains q)=F
 have Lq:F.Sublist L:=by rw [<-hF];exact List.filter_sublist
 refine BY (IY (AA 13 rfl) rfl) (fun hp=>?_) (fun hp=>AQ ?_)
 ·refine Cg (G8 (PX.we (AA 13 rfl) ⟨p,?_⟩))
  rw [DI hG]
  refine hR F (gd F Lq ?_)
  rintro rfl
  simp at hp
 ·refine Cg (G8 (PX.we (EL rfl mt Boot.«tuple» (AA 7 rfl)) ⟨p,?_⟩))
  rw [DI hG]
  refine hR L (gd L (List.Sublist.refl _) ?_)
  rintro rfl
  simp at qZ
  lia
end
end TF
namespace TF
open PySem PySem.Spec L2
open PyProof.Rows hiding St RelV
section
variable {P:Program}{w:World}{K:PySem.W.Frag}{mg:Str->Option Value}{base:Heap}{f:Addr}{fd:FuncData}
theorem JH (F:Fun K "_law_near" "_law_near" BC f fd):FnOk P w K mg base CX0 1 f fd CM (BD K Kz):=by
 refine DM (k:=0) F JN (fun ds G R h=>?_) (fun BO A outer s H E ds G R hr h=>?_)
 ·obtain ⟨q,x,rfl,_⟩:=h;rfl
 obtain ⟨q,x,rfl,hR⟩:=h
 have hu:(A.deeper (envOfC "_law_near" (AB BC) s.heap.objs.size f BO)).units+9<cLine:=by have:=hr.units;lia
 refine QB (f:=Fd 2 3) (Dk 2 3 rfl JN.nd) (AA 1 rfl) rfl ?_
 refine AW (HJ (Nc:=IA) (caps:=NI) (l:=(nbM x).map sq) (f:=CT 0) (fun d=>(q.map sq).any fun e=>eqD e d) id
  (CO (psc:=AB BC) (PN:=LL) (by decide +kernel) rfl rfl) rfl
  (RK (CA (AD (CD (AD (Ih (AA 2 rfl) AE) (AD (AA 3 rfl) AF))) (AD (CD (AD (AA 2 rfl) (AD (Ih (AA 3 rfl) AE) AF)))
   (AD (CD (AD (AA 2 rfl) (AD (BA (AA 3 rfl) AE) AF))) (AD (CD (AD (BA (AA 2 rfl) AE) (AD (AA 3 rfl) AF))) AF))))) ⟨rfl,rfl⟩)
  (fun C s' H' fp=>Aj 0 (show IA.Nodup by decide +kernel)) (BI rfl) (show 4≤5000 by decide) ?_) ?_
 ·intro C s' H' fp G2 d hd kn
  obtain ⟨y,_,rfl⟩:=List.mem_map.mp hd
  exact ⟨_,rfl,Br (Yi hu (AA 0 rfl) (AA 1 rfl) (.inl rfl) (Lw y) (Ed q)),fun _=>AA 0 rfl⟩
 ·rw [Qv]
  have:(fun y=>(q.map sq).any fun e=>eqD e (sq y))=q.contains:=funext fun y=>Py q y
  rw [this]
  exact hR
end
end TF
namespace TF
open PySem PySem.Spec L2
open PyProof.Rows hiding St RelV
section
variable {P:Program}{w:World}{K:PySem.W.Frag}{mg:Str->Option Value}{base:Heap}{f:Addr}{fd:FuncData}
theorem HI (n:Nat) (F:Fun K "_law_every" "_law_every" An f fd) (mt:mg "tuple"=none) (FN:Df P w K mg base "_law_near" CM 1 Kz)
  (ih:∀m,n=m+1->Df P w K mg base "_law_every" Ca (m+2) (Jb m)):FnOk P w K mg base CX0 (n+2) f fd Ca (BD K (Jb n)):=by
 refine DM (k:=n+1) F B4 (fun ds G R h=>?_) (fun BO A outer s H E ds G R hr h=>?_)
 ·obtain ⟨q,kp,kvs,rfl,_⟩:=h;rfl
 obtain ⟨q,kp,kvs,rfl,up,hl,hn,hG,hV,hz,hR⟩:=h
 have hu:(A.deeper (envOfC "_law_every" (AB An) s.heap.objs.size f BO)).units+9<cLine:=by have:=hr.units;lia
 refine BY (BP (IY (p:=!q.isEmpty) (AA 0 rfl) (by cases q<;>rfl))) (fun hp=>?_) (fun hp=>AQ ?_)
 ·have hq:q=[]:=by cases q with|nil=>rfl|cons _ _=>simp at hp
  subst hq
  refine AW (CA (AD (CA AF) AF)) ?_
  have:=hR kvs hV (by have:0<2 ^ n:=Nat.pow_pos (by decide);lia)
  rw [LP hG]at this
  exact this
 have Co:q≠[]:=by rintro rfl;simp at hp
 have qY:0<q.length:=List.length_pos_iff.mpr Co
 obtain ⟨m,rfl⟩:∃m,n=m+1:=⟨n-1,by lia⟩
 have W:=ih m rfl
 have tG:0<2 ^ m:=Nat.pow_pos (by decide)
 have qi:2 ^ (m+1)=2 ^ m+2 ^ m:=by rw [Nat.pow_succ];lia
 refine Rg (fun ρ' G'=>(∃x2 x3 x4 x5,ρ'=[some (fl q),some (.fn kp),x2,x3,x4,x5])/\∃DD,G'=put G kp (.dct DD)/\ValidE DD/\DD.length+1≤kvs.length+2 ^ (m+1)/\A2 DD (fl q)=some (IG (BE q)))
  (Br (Pz hu (AA 0 rfl) (AA 1 rfl) hG (Qk q) ⟨_,rfl⟩)) (fun q8=>?_) (fun q8=>?_) (fun ρ' G' hM=>?_)
 ·refine AX 2 B4.nd (CA AF) ?_
  refine AX 3 B4.nd (Am (AA 0 rfl) (Q6 AE) (Xi Co)) ?_
  have two:=Ox up
  refine Ce (l:=(C3 q (AS q)).map sq) (f:=CT 4) (fun i ρ' G'=>(∃x4 x5,ρ'=[some (fl q),some (.fn kp),some (IG (((C3 q (AS q)).take i).flatMap fun o=>(BE (Cq q (AS q) o)).map (·++[(o,AS q)]))),some (sq (AS q)),x4,x5])/\∃DD,G'=put G kp (.dct DD)/\ValidE DD/\DD.length≤kvs.length+i*(2 ^ m-1)) PassesOwn.never rfl
   (HY (A6 FN (hr.mono (by lia)) (AD (AA 0 rfl) (AD (AA 3 rfl) AF)) ⟨q,AS q,rfl,_,rfl,rfl,⟨none,none,rfl⟩,kvs,(LP hG).symm,hV,by simp⟩)) (Aj 4 B4.nd) ?_ ?_
  ·rintro i dd ρ' G' hd ⟨⟨x4,x5,rfl⟩,Yd,rfl,jS,iH⟩
   rw [List.getElem?_map]at hd
   obtain ⟨o,HE,rfl⟩:=Option.map_eq_some_iff.mp hd
   have VR:i<(C3 q (AS q)).length:=(List.getElem?_eq_some_iff.mp HE).1
   have ho:o∈C3 q (AS q):=List.mem_of_getElem? HE
   have SW:=FU up Co ho
   have gv:i*(2 ^ m-1)≤2 ^ m-1:=by
    have:i=0\/i=1:=by lia
    rcases this with rfl|rfl<;>lia
   refine ⟨_,rfl,?_⟩
   refine AX 5 B4.nd (PX.cast (d':=fl (Cq q (AS q) o)) (EL rfl mt Boot.«tuple» (HJ (Nc:=GR) (caps:=LX) (l:=q.map sq) (f:=CT 0) (fun d=>!(eqD d (sq (AS q)))&&!(eqD d (sq o))) id
    (CO (psc:=AB An) (PN:=FZ) (by decide +kernel) rfl rfl) rfl (Im (AA 0 rfl) ⟨rfl,rfl⟩)
     (fun C s' H' fp=>Aj 0 (show GR.Nodup by decide +kernel)) (BI rfl) (by rw [List.length_map];lia) ?_)) ?_) ?_
   ·intro C s' H' fp G2 d hd kn
    obtain ⟨y,_,rfl⟩:=List.mem_map.mp hd
    exact ⟨_,rfl,(RN (Br (NF hu (AA 0 rfl) (AA 1 rfl) rfl (A7 y 8) (A7 _ 8))) fun _=>PK (Br (NF hu (AA 0 rfl) (AA 2 rfl) rfl (A7 y 8) (A7 _ 8)))).t,fun _=>AA 0 rfl⟩
   ·rw [Qv]
    unfold fl Cq
    congr 3
    funext y
    rw [J6,J6]
   have jM:=fun r hr=>IC (GF _ (Nat.le_refl _) (HC up (AS q) o) r hr)
   have Wh:=IM m (F:=Cq q (AS q) o) (by lia) (HC up _ _)
   have il:2 ^ m≤2 ^ 11:=Nat.pow_le_pow_right (by decide) (by lia)
   have qu:(2:Nat) ^ 11=2048:=by decide
   have Wo:(((C3 q (AS q)).take i).flatMap fun o=>(BE (Cq q (AS q) o)).map (·++[(o,AS q)])).length≤2048:=by
    have:i=0\/i=1:=by lia
    rcases this with rfl|rfl
    ·simp
    ·obtain ⟨a,t,e⟩:∃a t,C3 q (AS q)=a::t:=List.exists_cons_of_ne_nil (List.ne_nil_of_mem ho)
     have ha:a∈C3 q (AS q):=by rw [e];exact List.mem_cons_self ..
     have ZE:=FU up Co ha
     have:=IM m (F:=Cq q (AS q) a) (by lia) (HC up _ _)
     rw [e]
     simp
     lia
   refine Cd 2 B4.nd (Wz (AA 2 rfl) (PY (Nc:=Gd) (caps:=LY) (l:=(BE (Cq q (AS q) o)).map PF) (f:=CT 0) (fun d=>match d with|.lst l=>.lst (l++[Ap (o,AS q)])|_=>.non)
    (fun G'=>∃DD,G'=put G kp (.dct DD)/\ValidE DD/\DD.length≤kvs.length+(i+1)*(2 ^ m-1))
    (CO (psc:=AB An) (PN:=FZ) (by decide +kernel) rfl rfl) rfl
    (HY (A6 W (hr.mono (by lia)) (AD (AA 5 rfl) (AD (AA 1 rfl) AF)) ⟨Cq q (AS q) o,kp,Yd,rfl,HC up _ _,by lia,by lia,AL,jS,by lia,fun cE nE ZE=>⟨_,rfl,rfl,cE,BQ,nE,?_⟩⟩))
    (fun C s' H' fp=>Aj 0 (show Gd.Nodup by decide +kernel)) (BI rfl) (by rw [List.length_map];exact sz1 (by lia)) ?_ ?_))
   ·have:(i+1)*(2 ^ m-1)=i*(2 ^ m-1)+(2 ^ m-1):=by rw [Nat.add_mul];lia
    lia
   ·intro C s' H' fp G2 d hd
    obtain ⟨r,sH,rfl⟩:=List.mem_map.mp hd
    have:=jM r sH
    exact ⟨_,rfl,Gy (AA 0 rfl) (CA (AD (CD (AD (AA 2 rfl) (AD (AA 1 rfl) AF))) AF)) (by rw [List.length_map];exact sz (by simp;lia))⟩
   ·rintro G2 ⟨cE,rfl,nE,ZE⟩
    refine ⟨_,rfl,?_,AQ ⟨⟨some (sq o),some (fl (Cq q (AS q) o)),?_⟩,cE,rfl,nE,ZE⟩⟩
    ·rw [List.length_map,List.length_map,List.length_map];refine sz (Nat.le_trans (Nat.add_le_add Wo (Nat.le_trans Wh il)) (by decide))
    ·refine congrArg (fun z=>[some (fl q),some (.fn kp),some z,some (sq (AS q)),some (sq o),some (fl (Cq q (AS q) o))]) ?_
     rw [List.take_add_one,HE,List.flatMap_append]
     unfold IG
     simp only [Option.toList_some,List.flatMap_cons,List.flatMap_nil,List.append_nil,List.map_append,List.map_map,Dat.lst.injEq]
     congr 1
     refine List.map_congr_left fun r _=>?_
     simp [Function.comp,PF]
  ·rintro ρ' G' ⟨⟨x4,x5,rfl⟩,Yd,rfl,jS,iH⟩
   rw [List.length_map,List.take_length,<-GD Co]at *
   have SW:Yd.length≤kvs.length+2*(2 ^ m-1):=Nat.le_trans iH (Nat.add_le_add_left (Nat.mul_le_mul_right _ two) _)
   refine Fe (k:=fl q) (d:=IG (BE q)) hu (AA 2 rfl) (AA 1 rfl) (AA 0 rfl) AL (Qk q) ⟨_,rfl⟩ (sz1 (by have:(2:Nat) ^ 12=4096:=rfl;lia)) (AQ ⟨⟨_,_,_,_,rfl⟩,?_⟩)
   rw [BQ]
   exact ⟨_,rfl,jS.put q,by have:=JC Yd (fl q) (IG (BE q));lia,Q7 _ _ _⟩
 ·refine AQ ⟨⟨_,_,_,_,rfl⟩,kvs,(LP hG).symm,hV,by lia,?_⟩
  have hs:(A2 kvs (fl q)).isSome=true:=by
   cases e:(A2 kvs (fl q)).isSome with
   |true=>rfl
   |false=>
    have Nu:(!(A2 kvs (fl q)).isSome)=false:=q8
    rw [e]at Nu
    cases Nu
  obtain ⟨d,hd⟩:=Option.isSome_iff_exists.mp hs
  rw [hd,hV.look hd]
 ·obtain ⟨⟨x2,x3,x4,x5,rfl⟩,DD,rfl,tq,XG,look⟩:=hM
  exact AW (X1 (k:=fl q) hu (AA 1 rfl) (AA 0 rfl) AL (Qk q) ⟨_,rfl⟩ look) (hR DD tq XG)
theorem KZ (F:Fun K "_law_all" "_law_all" BV f fd) (mt:mg "tuple"=none) (ms:mg "sorted"=none) (W:Df P w K mg base "_law_every" Ca 14 (Jb 12)):FnOk P w K mg base CX0 15 f fd DP (BD K RW):=by
 refine DM (k:=14) F P5 (fun ds G R h=>?_) (fun BO A outer s H E ds G R hr h=>?_)
 ·obtain ⟨q,rfl,_⟩:=h;rfl
 obtain ⟨q,rfl,Co,up,hl,hR⟩:=h
 have hu:(A.deeper (envOfC "_law_all" (AB BV) s.heap.objs.size f BO)).units+20<cLine:=by have:=hr.units;lia
 have ez:=IM 12 (F:=q) (by lia) up
 have rk:(2:Nat) ^ 12=4096:=by decide
 have V0:ValidE []:=fun _ h=>nomatch h
 refine AW (EU aG ((BE q).map TSt.sort) (d1:=.lst (((BE q).map TSt.sort).map lay)) hu ms (G8 (PY (Nc:=Iw) (caps:=Pj) (l:=(BE q).map PF) (f:=CT 0) (via PF fun r=>lay (TSt.sort r))
  (fun G'=>∃p kvs,G p=none/\G'=put G p (.dct kvs)) (CO (psc:=AB BV) (PN:=MI) (by decide +kernel) rfl rfl) rfl
  (HY (bK W hr (RG (PX.we (AA 0 rfl) (RG (Mq fun p hp=>aF ⟨q,p,[],rfl,up,by lia,by lia,AL,V0,by decide,fun DD _ _=>⟨_,rfl,rfl,p,DD,hp,BQ⟩⟩))))))
  (fun C s' H' fp=>Aj 0 (show Iw.Nodup by decide +kernel)) (BI rfl) (by rw [List.length_map];exact sz1 (by lia)) ?_ ?_)) (.inl rfl) ?_) ?_
 ·intro C s' H' fp G2 d hd
  obtain ⟨r,sH,rfl⟩:=List.mem_map.mp hd
  refine ⟨_,rfl,?_⟩
  rw [Mi OW]
  exact EL rfl mt Boot.«tuple» (EU TSt r hu ms (AA 0 rfl) (.inl rfl) (.inr fun x _=>⟨_,_,rfl⟩))
 ·rintro G' ⟨p,kvs,hp,rfl⟩
  refine ⟨p,?_,?_⟩
  ·rw [Xj OW,List.map_map];rfl
  ·rw [DI hp]
 ·refine .inr fun x hx=>?_
  obtain ⟨r,hr,rfl⟩:=List.mem_map.mp hx
  have C:=(GF _ (Nat.le_refl _) up r hr).lay (MX up)
  have hc:=IC C.toCov
  have qY:0<q.length:=List.length_pos_iff.mpr Co
  obtain ⟨a,t,e⟩:∃a t,TSt.sort r=a::t:=List.exists_cons_of_ne_nil (by intro h0;rw [h0]at hc;simp at hc;lia)
  rw [e]
  exact ⟨_,_,rfl⟩
 ·exact hR
end
end TF
namespace TF
open PySem PySem.Spec L2
open PyProof.Rows hiding St RelV
section
variable {P:Program}{w:World}{K:PySem.W.Frag}{mg:Str->Option Value}{base:Heap}{f:Addr}{fd:FuncData}
theorem Hh (F:Fun K "is_number" "is_number" BK f fd) (mi:mg "isinstance"=none) (mn:mg "int"=none) (mb:mg "bool"=none):FnOk P w K mg base CX0 1 f fd CS (BD K HZ):=by
 refine DM (k:=0) F Mp (fun ds G R h=>?_) (fun BO A outer s H E ds G R hr h=>?_)
 ·obtain ⟨d,t,rfl,_⟩:=h;rfl
 obtain ⟨d,t,rfl,ht,hR⟩:=h
 refine AW (Dj (D7 (T:="int") (T':="int") mi mn (AA 0 rfl) ht) fun _=>IQ (Zz (D7 (T:="bool") (T':="bool") mi mb (AA 0 rfl) ht))) ?_
 rw [YJ]
 exact hR
theorem Kx (F:Fun K "is_pair" "is_pair" B2 f fd) (mi:mg "isinstance"=none) (mt:mg "tuple"=none) (ml:mg "len"=none):FnOk P w K mg base CX0 1 f fd DT (BD K Jq):=by
 refine DM (k:=0) F P8 (fun ds G R h=>?_) (fun BO A outer s H E ds G R hr h=>?_)
 ·obtain ⟨d,t,rfl,_⟩:=h;rfl
 obtain ⟨d,t,rfl,ht,hR⟩:=h
 refine AW (Dj (q:=JK d) (D7 (T:="tuple") (T':="tuple") mi mt (AA 0 rfl) ht) fun hp=>IQ ?_) ?_
 ·rw [M1]at hp
  cases d with
  |tup l=>
   refine PX.cast (N5 (Cm (Ec (n:=l.length) rfl ml (AA 0 rfl) rfl) AE)) ?_
   match l with
   |[]=>rfl
   |[_]=>rfl
   |[_,_]=>rfl
   |_::_::_::r=>
    show Dat.bl (((r.length+1+1+1:Nat):Int)==2)=Dat.bl false
    rw [beq_false_of_ne (by lia)]
  |non=>cases ht;cases hp
  |bl _=>cases ht;cases hp
  |int _=>cases ht;cases hp
  |str _=>cases ht;cases hp
  |fn _=>cases ht
  |scr _=>cases ht;cases hp
  |lst _=>cases ht;cases hp
 ·have e:(isS t "tuple"&&JK d)=JK d:=by
   rw [M1]
   cases d with
   |tup l=>cases ht;rfl
   |fn _=>cases ht
   |non=>cases ht;rfl
   |bl _=>cases ht;rfl
   |int _=>cases ht;rfl
   |str _=>cases ht;rfl
   |scr _=>cases ht;rfl
   |lst _=>cases ht;rfl
  rw [e]
  exact hR
theorem JR (F:Fun K "is_place" "is_place" Bd f fd) (FP:Df P w K mg base "is_pair" DT 1 Jq) (FN:Df P w K mg base "is_number" CS 1 HZ):FnOk P w K mg base CX0 2 f fd Cs (BD K JZ):=by
 refine DM (k:=1) F OT (fun ds G R h=>?_) (fun BO A outer s H E ds G R hr h=>?_)
 ·obtain ⟨d,rfl,_⟩:=h;rfl
 obtain ⟨d,rfl,hk,hR⟩:=h
 obtain ⟨t,ht⟩:=U8 hk
 by_cases hp:JK d=true
 ·obtain ⟨a,b,rfl⟩:∃a b,d=.tup [a,b]:=by
   unfold JK at hp
   split at hp
   ·exact ⟨_,_,rfl⟩
   ·cases hp
  have Dp:((tyS a).isSome&&((tyS b).isSome&&true))=true:=hk
  rw [Bool.and_true,Bool.and_eq_true]at Dp
  obtain ⟨ta,ha⟩:=Option.isSome_iff_exists.mp Dp.1
  obtain ⟨tb,hb⟩:=Option.isSome_iff_exists.mp Dp.2
  refine AW (Dj (A6 FP (hr.mono (by lia)) (AD (AA 0 rfl) AF) ⟨_,t,rfl,ht,rfl,rfl⟩) fun _=>Dj (A6 FN (hr.mono (by lia)) (AD (Am (AA 0 rfl) AE rfl) AF) ⟨a,ta,rfl,ha,rfl,rfl⟩) fun _=>IQ (A6 FN (hr.mono (by lia)) (AD (Am (AA 0 rfl) AE rfl) AF) ⟨b,tb,rfl,hb,rfl,rfl⟩)) ?_
  have e:(JK (.tup [a,b])&&((ta=="int")&&(tb=="int")))=Gr (.tup [a,b]):=by
   cases a<;>cases ha<;>cases b<;>cases hb<;>rfl
  rw [e]
  exact hR
 ·have Xb:JK d=false:=by simpa using hp
  refine AW (Dj (q:=true) (A6 FP (hr.mono (by lia)) (AD (AA 0 rfl) AF) ⟨_,t,rfl,ht,rfl,rfl⟩) fun h=>absurd h hp) ?_
  have e:Gr d=false:=by
   unfold Gr
   split
   ·cases Xb
   ·rfl
  rw [Xb,Bool.false_and,<-e]
  exact hR
end
end TF
namespace TF
open PySem PySem.Spec L2
open PyProof.Rows hiding St RelV
section
variable {P:Program}{w:World}{K:PySem.W.Frag}{mg:Str->Option Value}{base:Heap}{f:Addr}{fd:FuncData}
theorem Hu {tk:Tok} (F:Fun K "is_square" "is_square" BH f fd) (hL:mg "LAST_LINE"=some (.int 7 tk)) (FP:Df P w K mg base "is_place" Cs 2 JZ):FnOk P w K mg base CX0 3 f fd CV (BD K Fo):=by
 refine DM (k:=2) F NO (fun ds G R h=>?_) (fun BO A outer s H E ds G R hr h=>?_)
 ·obtain ⟨d,rfl,_⟩:=h;rfl
 obtain ⟨d,rfl,hk,hR⟩:=h
 cases hp:Gr d with
 |false=>
  refine AW (Dj (p:=false) (q:=true) (PX.cast (A6 FP hr (AD (AA 0 rfl) AF) ⟨d,rfl,hk,rfl,rfl⟩) (by rw [hp])) fun h=>absurd h (by decide)) ?_
  have e:B5 d=false:=by
   unfold B5
   split
   ·cases hp
   ·rfl
  rw [e]at hR
  exact hR
 |true=>
  obtain ⟨q,rfl⟩:=V7 hp
  refine AW (Dj (p:=true) (PX.cast (A6 FP hr (AD (AA 0 rfl) AF) ⟨_,rfl,hk,rfl,rfl⟩) (by rw [hp])) fun _=>Dj (Rx AE (Am (AA 0 rfl) AE rfl) (GJ hL)) fun _=>IQ (Rx AE (Am (AA 0 rfl) AE rfl) (GJ hL))) ?_
  exact hR
theorem HM (F:Fun K "is_rising" "is_rising" Ay f fd) (ma:mg "all"=none) (mz:mg "zip"=none):FnOk P w K mg base CX0 1 f fd CQ (BD K II):=by
 refine DM (k:=0) F Nr (fun ds G R h=>?_) (fun BO A outer s H E ds G R hr h=>?_)
 ·obtain ⟨l,rfl,_⟩:=h;rfl
 obtain ⟨l,rfl,hz,ho,hR⟩:=h
 have hu:(A.deeper (envOfC "is_rising" (AB Ay) s.heap.objs.size f BO)).units+9<cLine:=by have:=hr.units;lia
 refine AW (Ve (bs:=(l.zip (l.drop 1)).map fun p=>Bw true p.1 p.2) rfl ma (PX.cast (FQ (Nc:=Ga) (caps:=Lc) (l:=Lm l (l.drop 1)) (f:=Fd 0 1) (fun d=>match d with|.tup [x,y]=>.bl (Bw true x y)|_=>.non)
  (CO (psc:=AB Ay) (PN:=JD) (by decide +kernel) rfl rfl) rfl
  (Z3 mz (AA 0 rfl) (PX.cast (S1 (ol:=some 1) (oh:=none) (AA 0 rfl) AE trivial) (by rw [jY])) ⟨rfl,rfl⟩)
  (fun C s' H' fp=>Dk 0 1 rfl (show Ga.Nodup by decide +kernel)) (WX rfl rfl) ?_ ?_) ?_)) ?_
 ·unfold Lm
  rw [List.length_map,List.length_zip]
  lia
 ·intro C s' H' fp G2 d hd kn
  unfold Lm at hd
  obtain ⟨p,hp,rfl⟩:=List.mem_map.mp hd
  obtain ⟨h1,h2,h3⟩:=ho p hp
  exact ⟨_,rfl,N5 (RY hu (AA 0 rfl) (AA 1 rfl) h1 h2 h3)⟩
 ·unfold Lm
  rw [List.map_map,List.map_map]
  rfl
 ·rw [List.all_map]
  exact hR
end
end TF
namespace TF
open PySem PySem.Spec L2
open PyProof.Rows hiding St RelV
section
variable {P:Program}{w:World}{K:PySem.W.Frag}{mg:Str->Option Value}{base:Heap}{f:Addr}{fd:FuncData}
theorem Nw {B:Addr} {tk jE:Tok} (F:Fun K "checked" "checked" Bo f fd) (mi:mg "isinstance"=none) (mt:mg "tuple"=none) (ml:mg "len"=none) (ma:mg "all"=none) (hM:mg "MOST_SQUARES"=some (.int 24 tk)) (hL:mg "LAST_LINE"=some (.int 7 jE)) (hB:mg "BadFloor"=some (.ref B)) (xB:PySem.W.excIn K B [.type "ValueError",.type "Exception",.type "BaseException",.type "object"] "ValueError.__new__"=true)
  (FS:Df P w K mg base "is_square" CV 3 Fo) (FR:Df P w K mg base "is_rising" CQ 1 II):FnOk P w K mg base (CXC P w) 4 f fd DO (JM K (Fy B)):=by
 refine Zv (k:=3) F Qe (fun ds G R RX h=>?_) (fun BO A outer s H E ds G R RX hr h=>?_)
 ·obtain ⟨d,rfl,_⟩:=h;rfl
 obtain ⟨d,rfl,⟨⟨t,ht⟩,ok⟩,hR,hX⟩:=h
 by_cases htup:¬∃l,d=.tup l
 ·refine Fw (b:=true) (PXT.cast (BP (B1 (D7 (T:="tuple") (T':="tuple") mi mt (AA 0 rfl) ht))) ?_) (fun _=>?_) (fun h=>absurd h (by decide)) rfl
  ·rw [M1]
   cases d with
   |tup l=>exact absurd ⟨l,rfl⟩ htup
   |fn _=>cases ht
   |non=>cases ht;rfl
   |bl _=>cases ht;rfl
   |int _=>cases ht;rfl
   |str _=>cases ht;rfl
   |scr _=>cases ht;rfl
   |lst _=>cases ht;rfl
  ·exact CN rfl rfl xB PySem.F.excBase_ValueError hB (AD AU AF) (by simp) (hX fun ⟨M,e,_⟩=>htup ⟨_,e⟩)
 obtain ⟨l,rfl⟩:=Classical.not_not.mp htup
 cases ht
 obtain ⟨hz,hk⟩:=ok l rfl
 refine Fw (b:=false) (PXT.cast (BP (B1 (D7 (T:="tuple") (T':="tuple") mi mt (AA 0 rfl)))) rfl) (fun h=>absurd h (by decide)) (fun _=>?_) rfl
 refine Fw (BP (HG AE (Ec (n:=l.length) rfl ml (AA 0 rfl) rfl) (GJ hM))) (fun hp=>?_) (fun hp=>?_) rfl
 ·refine CN rfl rfl xB PySem.F.excBase_ValueError hB (AD (cH (GJ hM) (by decide) (by decide +kernel) (by decide +kernel) (by decide +kernel)) AF) (by simp) (hX fun ⟨M,e,gd⟩=>?_)
  unfold fl at e
  injection e with e
  have h1:=gd.len
  have h2:=List.length_pos_iff.mpr gd.ne
  have h3:l.length=M.length:=by rw [e,List.length_map]
  rw [decide_eq_true (show (1:Int)≤(l.length:Int) by lia),decide_eq_true (show (l.length:Int)≤24 by lia)]at hp
  cases hp
 have hlen:1≤l.length/\l.length≤24:=by
  simp only [Bool.not_eq_false',Bool.and_eq_true,decide_eq_true_eq]at hp
  lia
 refine Fw (BP (B1 (Ve (bs:=l.map B5) rfl ma (PX.cast (FQ (Nc:=JA) (caps:=Pc) (l:=l) (f:=CT 0) (fun d=>.bl (B5 d))
  (CO (psc:=AB Bo) (PN:=Ly) (by decide +kernel) rfl rfl) rfl
  (Im (AA 0 rfl) ⟨rfl,rfl⟩)
  (fun C s' H' fp=>Aj 0 (show JA.Nodup by decide +kernel)) (BI rfl) (by lia) ?_) (by rw [List.map_map];rfl))))) (fun hp=>?_) (fun hp=>?_) rfl
 ·intro C s' H' fp G2 d hd kn
  exact ⟨_,rfl,A6 FS hr (AD (AA 0 rfl) AF) ⟨d,rfl,hk d hd,rfl,rfl⟩⟩
 ·refine CN rfl rfl xB PySem.F.excBase_ValueError hB (AD (bG (GJ hL) (by decide) (by decide +kernel) (by decide +kernel)) AF) (by simp) (hX fun ⟨M,e,gd⟩=>?_)
  unfold fl at e
  injection e with e
  subst e
  have:((M.map sq).map B5).all id=true:=by
   rw [List.all_map,List.all_eq_true]
   intro x hx
   obtain ⟨q,hq,rfl⟩:=List.mem_map.mp hx
   exact Tp (gd.inn q hq)
  rw [this]at hp
  cases hp
 have Eo:l.all B5=true:=by
  have h2:(l.map B5).all id=true:=by simpa using hp
  rw [List.all_map]at h2
  exact h2
 obtain ⟨M,rfl,box⟩:=OS Eo
 rw [List.length_map]at hlen
 refine Fw (BP (B1 (A6 FR (hr.mono (by lia)) (AD (AA 0 rfl) AF) ⟨M.map sq,rfl,by rw [List.length_map];lia,Yh M,rfl,rfl⟩))) (fun hp=>?_) (fun hp=>?_) rfl
 ·refine CN rfl rfl xB PySem.F.excBase_ValueError hB (AD AU AF) (by simp) (hX fun ⟨K',e,gd⟩=>?_)
  have:=QE (l:=M) (m:=K') e
  subst this
  rw [(QU M).mpr gd.up]at hp
  cases hp
 ·have wI:M.Pairwise A1:=(QU M).mp (by simpa using hp)
  exact RV (AW (AA 0 rfl) (hR ⟨M,rfl,⟨by rintro rfl;simp at hlen,wI,box,hlen.2⟩⟩)) rfl
end
end TF
namespace TF
open PySem PySem.Spec L2
open PyProof.Rows hiding St RelV
section
variable {P:Program}{w:World}{K:PySem.W.Frag}{mg:Str->Option Value}{base:Heap}{f:Addr}{fd:FuncData}
theorem KA (F:Fun K "covered" "covered" Bk f fd) (ms:mg "sorted"=none):FnOk P w K mg base CX0 1 f fd DQ (BD K Fz):=by
 refine DM (k:=0) F Gp (fun ds G R h=>?_) (fun BO A outer s H E ds G R hr h=>?_)
 ·obtain ⟨l,rfl,_⟩:=h;rfl
 obtain ⟨l,rfl,hz,hR⟩:=h
 have hu:(A.deeper (envOfC "covered" (AB Bk) s.heap.objs.size f BO)).units+20<cLine:=by have:=hr.units;lia
 refine KC 1 Gp.nd AF (fun p hp=>?_)
 refine Ce (l:=l.map Ap) (f:=CT 2) (fun i ρ' G'=>(∃x2,ρ'=[some (lay l),some (.fn p),x2])/\G'=put G p (.lst ((AM (l.take i)).map sq))) PassesOwn.never rfl
  (Im (AA 0 rfl) ⟨rfl,⟨none,rfl⟩,rfl⟩) (Aj 2 Gp.nd) ?_ ?_
 ·rintro i dd ρ' G' hd ⟨⟨x2,rfl⟩,rfl⟩
  rw [List.getElem?_map]at hd
  obtain ⟨t,ht,rfl⟩:=Option.map_eq_some_iff.mp hd
  refine ⟨_,rfl,?_⟩
  refine Pf (m:=[sq t.1,sq t.2]) (AA 1 rfl) (AA 2 rfl) AL ?_ (AQ ⟨⟨_,rfl⟩,?_⟩)
  ·rw [List.length_map,ET,List.length_take]
   exact sz (by simp;lia)
  ·rw [BQ,List.take_add_one,ht,Mz,List.map_append]
   rfl
 ·rintro ρ' G' ⟨⟨x2,rfl⟩,rfl⟩
  rw [List.length_map,List.take_length]
  refine Cg (G8 (PX.we (EU TSq (AM l) hu ms (AA 1 rfl) (.inr ⟨p,rfl,AL⟩) (.inl fun x=>⟨_,_,rfl⟩)) ⟨p,?_⟩))
  rw [DI hp]
  exact hR
end
end TF
namespace TF
open PySem PySem.Spec L2
open PyProof.Rows hiding St RelV
section
variable {P:Program}{w:World}{K:PySem.W.Frag}{mg:Str->Option Value}{base:Heap}{f:Addr}{fd:FuncData}
theorem Iq (F:Fun K "signs_of" "signs_of" BM f fd):FnOk P w K mg base CX0 1 f fd Cv (BD K Jl):=by
 refine DM (k:=0) F Ds (fun ds G R h=>?_) (fun BO A outer s H E ds G R hr h=>?_)
 ·obtain ⟨k,rfl,_⟩:=h;rfl
 obtain ⟨k,rfl,nd,hz,hR⟩:=h
 have hu:(A.deeper (envOfC "signs_of" (AB BM) s.heap.objs.size f BO)).units+9<cLine:=by have:=hr.units;lia
 refine Cd 1 Ds.nd (Mq fun p hp=>?_)
 refine Ce (l:=k.map Ap) (f:=Fd 2 3) (fun i ρ' G'=>(∃x2 x3 x4,ρ'=[some (lay k),some (.fn p),x2,x3,x4])/\G'=put G p (.dct (BB k (k.take i)))) PassesOwn.never rfl
  (Im (AA 0 rfl) ⟨rfl,⟨none,none,none,rfl⟩,rfl⟩) (Dk 2 3 rfl Ds.nd) ?_ ?_
 ·rintro i dd ρ' G' hd ⟨⟨x2,x3,x4,rfl⟩,rfl⟩
  rw [List.getElem?_map]at hd
  obtain ⟨t,ht,rfl⟩:=Option.map_eq_some_iff.mp hd
  have Zb:t∈k:=List.mem_of_getElem? ht
  have et:k.take (i+1)=k.take i++[t]:=by rw [List.take_add_one,ht];rfl
  have hlen:(BB k (k.take i)).length≤2000:=by
   unfold BB
   rw [List.length_map,ET,List.length_take]
   lia
  refine ⟨_,rfl,?_⟩
  refine AX 4 Ds.nd (d:=.bl (t.1.2==t.2.2)) (N5 (Cm (Am (AA 2 rfl) AE rfl) (Am (AA 3 rfl) AE rfl))) ?_
  refine Fe (d:=.str (chr (Dl t))) hu (Ov (B1 (AA 4 rfl)) (fun h=>PX.cast AU ?_) (fun h=>PX.cast AU ?_)) (AA 1 rfl) (AA 2 rfl) AL (E1 t.1) ⟨_,rfl⟩ (sz1 (by lia)) ?_
  ·have h':t.1.2=t.2.2:=by simpa using h
   unfold Dl
   rw [if_pos h']
   rfl
  ·have h':¬t.1.2=t.2.2:=by simpa using h
   unfold Dl
   rw [if_neg h']
   rfl
  rw [BQ]
  refine Fe (d:=.str (chr (Dt t))) hu (Ov (B1 (AA 4 rfl)) (fun h=>PX.cast AU ?_) (fun h=>PX.cast AU ?_)) (AA 1 rfl) (AA 3 rfl) AL (E1 t.2) ⟨_,rfl⟩ (sz1 (Nat.le_trans (PZ _ _ _) (by lia))) (AQ ⟨⟨_,_,_,rfl⟩,?_⟩)
  ·have h':t.1.2=t.2.2:=by simpa using h
   unfold Dt
   rw [if_pos h']
   rfl
  ·have h':¬t.1.2=t.2.2:=by simpa using h
   unfold Dt
   rw [if_neg h']
   rfl
  rw [BQ,et,MK]
  ·refine List.Nodup.sublist ?_ nd
   rw [<-et]
   exact Sb (List.take_sublist _ _)
  ·exact Ji nd Zb
  ·exact NJ nd Zb
 ·rintro ρ' G' ⟨⟨x2,x3,x4,rfl⟩,rfl⟩
  rw [List.length_map,List.take_length]
  exact AW (AA 1 rfl) (hR p hp)
theorem HW (F:Fun K "shown_row" "shown_row" Az f fd) (mr:mg "range"=none):FnOk P w K mg base CX0 1 f fd CP (BD K Mt):=by
 refine DM (k:=0) F NU (fun ds G R h=>?_) (fun BO A outer s H E ds G R hr h=>?_)
 ·obtain ⟨k,p,r,w,rfl,_⟩:=h;rfl
 obtain ⟨k,p,r,w,rfl,hG,hw,hR⟩:=h
 have hu:(A.deeper (envOfC "shown_row" (AB Az) s.heap.objs.size f BO)).units+9<cLine:=by have:=hr.units;lia
 refine AW (PX.cast (HK (ss:=(A5 k w r).map chr) (PX.cast AU rfl) (PX.cast (FQ (Nc:=GZ) (caps:=Lr) (l:=A8 0 w) (f:=CT 0) (fun d=>match d with|.int c=>.str (chr (sgn k ((r:Int),c)))|_=>.non)
  (CO (psc:=AB Az) (PN:=JB) (by decide +kernel) rfl rfl) rfl
  (Cw rfl mr (AA 2 rfl) (by lia) (by lia) ⟨rfl,rfl⟩)
  (fun C s' H' fp=>Aj 0 (show GZ.Nodup by decide +kernel)) (BI rfl) (by rw [Bu];lia) ?_) ?_) (Wm _ ?_)) ?_) hR
 ·intro C s' H' fp G2 d hd kn
  obtain ⟨c,hc,rfl⟩:=Gq hd
  refine ⟨_,rfl,PX.cast (O7 (k:=sq ((r:Int),0+(c:Int))) hu (AA 2 rfl) (CD (AD (AA 1 rfl) (AD (AA 0 rfl) AF))) (dd:=.str (chr 46)) (PX.cast AU rfl) (kn p _ hG) (E1 _) ⟨_,rfl⟩) (Ob k _)⟩
 ·unfold A5 A8
  simp [List.map_map,Function.comp_def]
 ·rw [Vs]
  simp [A5]
  lia
 ·rw [Ph,List.map_map]
  congr 2
  simp [chr,Function.comp_def,List.flatten_eq_flatMap,List.flatMap_map]
theorem OE (F:Fun K "shown" "shown" CL f fd) (mr:mg "range"=none) (mm:mg "max"=none) (FS:Df P w K mg base "signs_of" Cv 1 Jl) (FR:Df P w K mg base "shown_row" CP 1 Mt):FnOk P w K mg base CX0 2 f fd Fs (BD K Dw):=by
 refine DM (k:=1) F IH (fun ds G R h=>?_) (fun BO A outer s H E ds G R hr h=>?_)
 ·obtain ⟨k,h,w,rfl,_⟩:=h;rfl
 obtain ⟨k,h,w,rfl,nd,hz,bx,hR⟩:=h
 have X7:=bx.sm
 have Ue:(BB k k).length≤2000:=by
  unfold BB
  rw [List.length_map,ET]
  lia
 refine Cd 1 IH.nd (A6 FS hr (AD (AA 0 rfl) AF) ⟨k,rfl,nd,hz,fun p hp=>?_⟩)
 refine AX 2 IH.nd (d:=.int h) (O1 (ns:=(AM k).map fun q=>q.1+1) rfl mm (PX.cast (Hm (Nc:=MM) (caps:=Tw) (f:=CT 0) (fun d=>match d with|.tup [.int a,_]=>.int (a+1)|_=>.non)
  (CO (psc:=AB CL) (PN:=Jm) (by decide +kernel) rfl rfl) rfl (AA 1 rfl) AL
  (fun C s' H' fp=>Aj 0 (show MM.Nodup by decide +kernel)) (BI rfl) (sz1 (by lia)) ?_) ?_) AE ?_ ?_) ?_
 ·intro C s' H' fp G2 d hd
  rw [Bv]at hd
  obtain ⟨q,_,rfl⟩:=List.mem_map.mp hd
  exact ⟨_,rfl,BA (Am (AA 0 rfl) AE rfl) AE⟩
 ·rw [Bv,List.map_map,List.map_map];rfl
 ·obtain ⟨q,hq,e⟩:=bx.hh
  exact List.mem_map.mpr ⟨q,hq,e⟩
 ·intro a ha
  obtain ⟨q,hq,rfl⟩:=List.mem_map.mp ha
  have:=bx.box q hq
  lia
 refine AX 3 IH.nd (d:=.int w) (O1 (ns:=(AM k).map fun q=>q.2+1) rfl mm (PX.cast (Hm (Nc:=L1) (caps:=Tc) (f:=CT 0) (fun d=>match d with|.tup [_,.int a]=>.int (a+1)|_=>.non)
  (CO (psc:=AB CL) (PN:=Jm) (by decide +kernel) rfl rfl) rfl (AA 1 rfl) AL
  (fun C s' H' fp=>Aj 0 (show L1.Nodup by decide +kernel)) (BI rfl) (sz1 (by lia)) ?_) ?_) AE ?_ ?_) ?_
 ·intro C s' H' fp G2 d hd
  rw [Bv]at hd
  obtain ⟨q,_,rfl⟩:=List.mem_map.mp hd
  exact ⟨_,rfl,BA (Am (AA 0 rfl) AE rfl) AE⟩
 ·rw [Bv,List.map_map,List.map_map];rfl
 ·obtain ⟨q,hq,e⟩:=bx.ww
  exact List.mem_map.mpr ⟨q,hq,e⟩
 ·intro a ha
  obtain ⟨q,hq,rfl⟩:=List.mem_map.mp ha
  have:=bx.box q hq
  lia
 refine Cg (G8 (PX.we (d:=.str (Bh (Ag k h w))) (PX.cast (HK (ss:=(List.range h).map fun r=>Bh (A5 k w r++[10])) (PX.cast AU rfl) (PX.cast (FQ (Nc:=MD) (caps:=T8) (l:=A8 0 h) (f:=CT 0) (fun d=>match d with|.int r=>.str (Bh (A5 k w r.toNat++[10]))|_=>.non)
  (CO (psc:=AB CL) (PN:=Jm) (by decide +kernel) rfl rfl) rfl
  (Cw rfl mr (AA 2 rfl) (by lia) (by lia) ⟨rfl,rfl⟩)
  (fun C s' H' fp=>Aj 0 (show MD.Nodup by decide +kernel)) (BI rfl) (by rw [Bu];lia) ?_) ?_) (Wm _ ?_)) ?_) ⟨p,?_⟩))
 ·intro C s' H' fp G2 d hd kn
  obtain ⟨c,hc,rfl⟩:=Gq hd
  refine ⟨_,rfl,PX.cast (CI (x:=Bh (A5 k w c)) (y:=chr 10) (A6 FR hr (AD (AA 1 rfl) (AD (AA 0 rfl) (AD (AA 2 rfl) AF))) ⟨k,p,c,w,by rw [Int.zero_add],kn p _ AL,X7.2,rfl,rfl⟩) (PX.cast AU rfl) (sz (by rw [DU];simp [A5,chr,Str.length];lia))) ?_⟩
  show Dat.str (Bh (A5 k w c)++chr 10)=Dat.str (Bh (A5 k w (0+(c:Int)).toNat++[10]))
  rw [Int.zero_add,Int.toNat_natCast]
  congr 1
  exact Hb (by rw [CK];rfl)
 ·unfold A8
  simp [List.map_map,Function.comp_def]
 ·have e:(((List.range h).map fun r=>Bh (A5 k w r++[10])).map (·.length))=(List.range h).map fun _=>w+1:=by
   rw [List.map_map]
   refine List.map_congr_left fun r _=>?_
   show (Bh (A5 k w r++[10])).length=_
   rw [DU]
   simp [A5]
  rw [e,List.map_const',List.sum_replicate_nat,List.length_range]
  have:h*(w+1)≤8*9:=Nat.mul_le_mul X7.1 (by lia)
  lia
 ·rw [Ph,List.map_map]
  congr 2
 ·rw [DI hp]
  exact hR
theorem ID (F:Fun K "stones_in" "stones_in" BJ f fd) (me:mg "enumerate"=none) (mt:mg "tuple"=none):FnOk P w K mg base CX0 1 f fd CZ (BD K Hy):=by
 refine DM (k:=0) F DL (fun ds G R h=>?_) (fun BO A outer s H E ds G R hr h=>?_)
 ·obtain ⟨x,rfl,_⟩:=h;rfl
 obtain ⟨x,rfl,hx,hR⟩:=h
 obtain ⟨ps,ZW⟩:∃ps,ps=Txt.split x (chr 10):=⟨_,rfl⟩
 have ed:=MP x
 rw [<-ZW]at ed hR
 obtain ⟨ls,pL⟩:∃ls,ls=ps.map fun p=>p.cps.toList:=⟨_,rfl⟩
 rw [<-pL]at ed hR
 refine KC 1 DL.nd AF (fun p hp=>?_)
 refine Ce (l:=DZ (ps.map .str)) (f:=Fd 2 3) (fun i ρ' G'=>(∃x2 x3 x4 x5,ρ'=[some (.str x),some (.fn p),x2,x3,x4,x5])/\G'=put G p (.lst ((Ah (ls.take i)).map Ap))) PassesOwn.never rfl
  (V5 me (PX.cast (OJ (y:=chr 10) (AA 0 rfl) (PX.cast AU rfl) rfl (sz (by lia)) ?_) (by rw [ZW])) ⟨rfl,⟨none,none,none,none,rfl⟩,by simp [Ah]⟩) (Dk 2 3 rfl DL.nd) ?_ ?_
 ·rw [length_partsBetween]
  have:=StrLaws.occ_length_le x (chr 10) 0 x.length (x.length+1)
  exact sz (by lia)
 ·rintro i dd ρ' G' hd ⟨⟨x2,x3,x4,x5,rfl⟩,rfl⟩
  obtain ⟨e,he,rfl⟩:=EN hd
  rw [List.getElem?_map]at he
  obtain ⟨c,hc,rfl⟩:=Option.map_eq_some_iff.mp he
  have jf:ls[i]?=some c.cps.toList:=by rw [pL,List.getElem?_map,hc];rfl
  have iI:i<ls.length:=(List.getElem?_eq_some_iff.mp jf).1
  have et:Ah (ls.take (i+1))=Ah (ls.take i)++GW i c.cps.toList:=by
   rw [List.take_add_one,jf,Option.toList_some,J7,List.length_take,Nat.min_eq_left (Nat.le_of_lt iI)]
  have QC:=Kg (ls.take i)
  have ZG:=VY jf
  refine ⟨_,rfl,?_⟩
  refine Ce (l:=DZ (VD c)) (f:=Fd 4 5) (fun j ρ' G'=>(∃x4 x5,ρ'=[some (.str x),some (.fn p),some (.int (i:Nat)),some (.str c),x4,x5])/\G'=put G p (.lst ((Ah (ls.take i)++GS i c.cps.toList j).map Ap))) PassesOwn.never rfl
   (Vr me (AA 3 rfl) ⟨rfl,⟨_,_,rfl⟩,by simp [GS]⟩) (Dk 4 5 rfl DL.nd) ?_ ?_
  ·rintro j dd ρ' G' hd ⟨⟨x4,x5,rfl⟩,rfl⟩
   obtain ⟨e,he,rfl⟩:=EN hd
   unfold VD at he
   rw [List.getElem?_map]at he
   obtain ⟨d,UW,rfl⟩:=Option.map_eq_some_iff.mp he
   have hj:j<c.cps.toList.length:=(List.getElem?_eq_some_iff.mp UW).1
   have qY:=MJ i c.cps.toList j
   have hsz:((Ah (ls.take i)++GS i c.cps.toList j).map Ap).length≤1000:=by
    rw [List.length_map,List.length_append]
    lia
   refine ⟨_,rfl,?_⟩
   rw [Kw,UW]
   refine BY (Br (My (x:=chr d) (y:=chr 60) (AA 5 rfl) (PX.cast AU rfl))) (fun hp=>?_) (fun hp=>?_)
   ·rw [NK,decide_eq_true_eq]at hp
    subst hp
    refine Eg (d:=Ap (((i:Int),(j:Int)),((i:Int),(j:Int)+1))) (AA 1 rfl) (CD (AD (CD (AD (AA 2 rfl) (AD (AA 4 rfl) AF))) (AD (CD (AD (AA 2 rfl) (AD (BA (AA 4 rfl) AE) AF))) AF))) AL (sz1 (by lia)) (AQ (AQ ⟨⟨_,_,rfl⟩,?_⟩))
    rw [BQ]
    simp [CJ]
   ·rw [NK,decide_eq_false_iff_not]at hp
    refine BY (Br (My (x:=chr d) (y:=chr 94) (AA 5 rfl) (PX.cast AU rfl))) (fun Nu=>?_) (fun Nu=>?_)
    ·rw [NK,decide_eq_true_eq]at Nu
     subst Nu
     refine Eg (d:=Ap (((i:Int),(j:Int)),((i:Int)+1,(j:Int)))) (AA 1 rfl) (CD (AD (CD (AD (AA 2 rfl) (AD (AA 4 rfl) AF))) (AD (CD (AD (BA (AA 2 rfl) AE) (AD (AA 4 rfl) AF))) AF))) AL (sz1 (by lia)) (AQ (AQ (AQ ⟨⟨_,_,rfl⟩,?_⟩)))
     rw [BQ]
     simp [CJ]
    ·rw [NK,decide_eq_false_iff_not]at Nu
     refine AQ (AQ (AQ ⟨⟨_,_,rfl⟩,?_⟩))
     simp [CJ,hp,Nu]
  ·rintro ρ' G' ⟨⟨x4,x5,rfl⟩,rfl⟩
   refine AQ ⟨⟨_,_,_,_,rfl⟩,?_⟩
   rw [et,D9]
   unfold VD GW GS
   simp
 ·rintro ρ' G' ⟨⟨x2,x3,x4,x5,rfl⟩,rfl⟩
  refine Cg (G8 (PX.we (Th AL rfl mt (by decide +kernel) (AA 1 rfl)) ⟨p,?_⟩))
  rw [DI hp,D9,List.length_map,show ps.length=ls.length by rw [pL,List.length_map],List.take_length]
  exact hR
end
end TF
namespace TF
open PySem PySem.Spec L2
open PyProof.Rows hiding St RelV
section
variable {P:Program}{w:World}{K:PySem.W.Frag}{mg:Str->Option Value}{base:Heap}{f:Addr}{fd:FuncData}
theorem U9 {B T:Addr} {tk:Tok} (F:Fun K "read" "read" EY f fd) (mi:mg "isinstance"=none) (ms:mg "str"=none) (ml:mg "len"=none) (mt:mg "tuple"=none) (hM:mg "MOST_SIGNS"=some (.int 72 tk)) (hB:mg "BadFloor"=some (.ref B)) (xB:PySem.W.excIn K B [.type "ValueError",.type "Exception",.type "BaseException",.type "object"] "ValueError.__new__"=true) (uB:Bi K B B=true)
  (hT:mg "BadText"=some (.ref T)) (xT:PySem.W.excIn K T [.type "ValueError",.type "Exception",.type "BaseException",.type "object"] "ValueError.__new__"=true)
  (FS:Df P w K mg base "stones_in" CZ 1 Hy) (FC:DfC P w K mg base "checked" DO 4 (Fy B)) (FV:Df P w K mg base "covered" DQ 1 Fz) (FH:Df P w K mg base "shown" Fs 2 Dw):FnOk P w K mg base (CXV P w) 5 f fd HA (JM K (HP T)):=by
 refine gY (k:=4) F Mk (fun ds G R RX h=>?_) (fun BO A outer s H E ds G R RX hr h=>?_)
 ·obtain ⟨d,rfl,_⟩:=h;rfl
 obtain ⟨d,rfl,⟨⟨t,ht⟩,hz⟩,hR,hX⟩:=h
 by_cases hstr:¬∃x,d=.str x
 ·refine Rv (b:=true) (Ex (p:=true) (q:=true) (PXT.cast (BP (B1 (D7 (T:="str") (T':="str") mi ms (AA 0 rfl) ht))) ?_) (fun h=>absurd h (by decide))).t (fun _=>?_) (fun h=>absurd h (by decide)) rfl
  ·cases d with
   |str x=>exact absurd ⟨x,rfl⟩ hstr
   |fn _=>cases ht
   |non=>cases ht;rfl
   |bl _=>cases ht;rfl
   |int _=>cases ht;rfl
   |tup _=>cases ht;rfl
   |scr _=>cases ht;rfl
   |lst _=>cases ht;rfl
  ·exact CN rfl rfl xT PySem.F.excBase_ValueError hT (AD AU AF) (by simp) (hX (Jd fun x e=>hstr ⟨x,e⟩))
 obtain ⟨x,rfl⟩:=Classical.not_not.mp hstr
 cases ht
 have hx:=hz x rfl
 refine Rv (Ex (p:=false) (q:=decide (72<(x.length:Int))) (PXT.cast (BP (B1 (D7 (T:="str") (T':="str") mi ms (AA 0 rfl)))) rfl) (fun _=>Hn (Br (Qw (SN ml (AA 0 rfl) (sz (by lia))) (GJ hM))))).t (fun hp=>?_) (fun hp=>?_) rfl
 ·refine CN rfl rfl xT PySem.F.excBase_ValueError hT (AD AU AF) (by simp) (hX ?_)
  rintro ⟨F',k,h,w',gd,J,bx,e⟩
  injection e with e
  have X7:=bx.sm
  have:x.length≤72:=by
   rw [e,DU,C8]
   exact Nat.le_trans (Nat.mul_le_mul X7.1 (show w'+1≤9 by lia)) (by decide)
  simp at hp
  lia
 have hk:=Uh x
 refine Su 1 Mk.nd (A6 FS (hr.mono (by lia)) (AD (AA 0 rfl) AF) ⟨x,rfl,by lia,?_⟩) rfl
 show Hz _ (List.set _ 1 (some (lay (Ah (IV x))))) _ _ _ _
 generalize Wq:Ah (IV x)=k at hk ⊢
 have jN:(TSq.sort (AM k)).length≤1000:=by
  rw [(TSq.sort_perm _).length_eq,ET]
  simp at hp
  lia
 refine Vo 2 (RC:=fun cls G'=>cls=.ref B/\¬isF (fl (TSq.sort (AM k)))/\G'=G) rfl rfl Mk.nd (YT rfl FC hr (AD (EL (l:=(TSq.sort (AM k)).map sq) rfl mt (by decide +kernel) (A6 FV (hr.mono (by lia)) (AD (AA 1 rfl) AF) ⟨k,rfl,by lia,rfl,rfl⟩)) AF) ⟨fl (TSq.sort (AM k)),rfl,Zr jN,fun hF=>?_,fun hF=>⟨rfl,hF,rfl⟩⟩) xB PySem.F.excBase_ValueError hB xT PySem.F.excBase_ValueError hT (fun cls G' ⟨e1,e2,e3⟩=>⟨B,_,_,e1,xB,uB,?_⟩)
 ·obtain ⟨M,eM,gd⟩:=hF
  have eM:=QE eM
  have J:IsLay M k:=by
   rw [<-Wq]
   refine QZ ?_
   rw [Wq,<-eM]
   exact (TSq.sort_perm _).symm
  have eC:(AM k).Nodup:=J.pm.nodup_iff.mpr gd.nodup
  obtain ⟨h,w',bx⟩:=Y1 gd J
  refine YB (Fw (Br (W0 (x:=Bh (Ag k h w')) (A6 FH (hr.mono (by lia)) (AD (AA 1 rfl) AF) ⟨k,h,w',rfl,eC,by lia,bx,rfl,rfl⟩) (AA 0 rfl))) (fun hq=>?_) (fun hq=>?_) rfl)
  ·refine CN rfl rfl xT PySem.F.excBase_ValueError hT (AD AU AF) (by simp) (hX ?_)
   rintro ⟨F2,k2,h2,w2,Pp,J2,UX,e⟩
   injection e with e
   have b:=TU Pp J2 UX
   rw [<-e,Wq]at b
   subst b
   obtain ⟨rfl,rfl⟩:=ae bx UX
   rw [e]at hq
   simp at hq
  ·have e:Bh (Ag k h w')=x:=by simpa using hq
   refine RV (AW (CD (AD (AA 2 rfl) (AD (AA 1 rfl) AF))) ?_) rfl
   rw [eM]
   exact hR M k h w' gd J bx (by rw [e])
 ·rw [e3]
  refine hX ?_
  rintro ⟨F2,k2,h2,w2,Pp,J2,UX,e⟩
  injection e with e
  have b:=TU Pp J2 UX
  rw [<-e,Wq]at b
  subst b
  exact e2 ⟨F2,by rw [Hw Pp.up J2.toCov],Pp⟩
end
end TF
namespace TF
open PySem PySem.Spec L2
open PyProof.Rows hiding St RelV
section
variable {P:Program}{w:World}{K:PySem.W.Frag}{mg:Str->Option Value}{base:Heap}{f:Addr}{fd:FuncData}
theorem ER (F:Fun K "_law_is_laying" "_law_is_laying" AY f fd) (mi:mg "isinstance"=none) (mt:mg "tuple"=none) (ml:mg "len"=none) (me:mg "enumerate"=none) (ms:mg "sorted"=none) (fj:mg "list"=none) (FN:Df P w K mg base "_law_near" CM 1 Kz):FnOk P w K mg base CX0 2 f fd BF (BD K Jg):=by
 refine DM (k:=1) F B0 (fun ds G R h=>?_) (fun BO A outer s H E ds G R hr h=>?_)
 ·obtain ⟨q,l,rfl,_⟩:=h;rfl
 obtain ⟨q,l,rfl,up,sM,I,hR⟩:=h
 have hu:(A.deeper (envOfC "_law_is_laying" (AB AY) s.heap.objs.size f BO)).units+9<cLine:=by have:=hr.units;lia
 have kN:(A.deeper (envOfC "_law_is_laying" (AB AY) s.heap.objs.size f BO)).units+20<cLine:=by have:=hr.units;lia
 have hl:=IC I.toCov
 refine BY (BP (B1 (D7 (T:="tuple") (T':="tuple") mi mt (AA 1 rfl)))) (fun hp=>absurd hp (by decide)) (fun _=>AQ ?_)
 refine AX 2 B0.nd (CA AF) ?_
 refine Ce (l:=DZ (l.map Ap)) (f:=Fd 3 4) (fun i ρ' G'=>G=G'/\∃x3 x4,ρ'=[some (fl q),some (lay l),some (.lst ((AM (l.take i)).map sq)),x3,x4]) PassesOwn.never rfl
  (YK me (AA 1 rfl) ⟨rfl,rfl,none,none,rfl⟩) (Dk 3 4 rfl B0.nd) ?_ ?_
 ·rintro i dd ρ' G' hd ⟨rfl,x3,x4,rfl⟩
  obtain ⟨e,he,rfl⟩:=EN hd
  rw [List.getElem?_map]at he
  obtain ⟨t,ht,rfl⟩:=Option.map_eq_some_iff.mp he
  have A4:i<l.length:=(List.getElem?_eq_some_iff.mp ht).1
  have hm:t∈l:=List.mem_of_getElem? ht
  obtain ⟨slt,jD⟩:=I.st t hm
  have Jt:=ah I.toCov hm
  refine ⟨_,rfl,?_⟩
  refine BY (Ex (q:=false) (BP (B1 (D7 (T:="tuple") (T':="tuple") mi mt (AA 4 rfl)))) (fun _=>Ex (q:=false) (p:=false) ?_ (fun _=>Hn ?_))).t (fun hp=>absurd hp (by decide)) (fun _=>AQ ?_)
  ·exact PXT.cast (Br (YY (Ec (n:=2) rfl ml (AA 4 rfl) rfl) AE)) rfl
  ·refine PXT.cast (BP (Br (RY hu (Am (AA 4 rfl) AE rfl) (Am (AA 4 rfl) AE rfl) rfl (A7 t.1 8) (A7 t.2 8)))) ?_
   rw [WO,decide_eq_true slt]
   rfl
  refine BY (Ex (p:=false) (q:=false) ?_ (fun _=>Hn ?_)).t (fun hp=>absurd hp (by decide)) (fun _=>AQ ?_)
  ·refine PXT.cast (Br (Km (d1:=sq t.2) (l:=(((nbM t.1).filter q.contains).map sq)) hu (Am (AA 4 rfl) AE rfl) (A6 FN hr (AD (AA 0 rfl) (AD (Am (AA 4 rfl) AE rfl) AF)) ⟨q,t.1,rfl,rfl,rfl⟩) (.inr (.inl rfl)) (Lw t.2) (Ed _))) ?_
   rw [Py]
   have:((nbM t.1).filter q.contains).contains t.2=true:=by simpa using ⟨jD,Jt.2⟩
   rw [this]
   rfl
  ·refine PXT.cast (p:=decide ((i:Int) > 0)&&false) (RN (Br (Qw (AA 3 rfl) AE)) (fun hp=>PK ?_)).t (by simp)
   have y6:0<i:=by simpa using hp
   have yY:l[i-1]?=some l[i-1]:=List.getElem?_eq_getElem (by lia)
   refine PXT.cast (Br (Wu hu (AA 4 rfl) (Am (AA 1 rfl) (PX.cast (d':=.int ((i-1:Nat):Int)) (Ih (AA 3 rfl) AE) (by congr 1;lia)) (Jp Ap (GA yY))) rfl (JG (by lia) (E6 t)) (JG (by lia) (E6 l[i-1])))) ?_
   refine QD ?_
   have:=List.pairwise_iff_getElem.mp I.up (i-1) i (by lia) A4 (by lia)
   rw [List.getElem?_eq_getElem A4]at ht
   cases ht
   exact this
  ·refine AX 2 B0.nd (Gy (AA 2 rfl) (CA (AD (Am (AA 4 rfl) AE rfl) (AD (Am (AA 4 rfl) AE rfl) AF))) ?_) (AQ ⟨rfl,some (.int (i:Nat)),some (Ap t),?_⟩)
   ·rw [List.length_map,ET,List.length_take]
    exact sz (by simp;lia)
   ·have et:l.take (i+1)=l.take i++[t]:=by rw [List.take_add_one,ht];rfl
    rw [et,Mz,List.map_append]
    rfl
 ·rintro ρ' G' ⟨rfl,x3,x4,rfl⟩
  rw [D9,List.length_map,List.take_length]
  have e1:=Hw up I.toCov
  refine AW (N5 (VL hu (EU TSq (AM l) kN ms (AA 2 rfl) (.inl rfl) (.inl fun x=>⟨_,_,rfl⟩)) (PW rfl fj Boot.«list» (AA 0 rfl)) ?_ ?_)) ?_
  ·rw [e1];exact Ed q
  ·exact Ed q
  ·rw [e1]
   have e2:eqD (.lst (q.map TSq.f)) (.lst (q.map sq))=true:=Ry q
   rw [e2]
   exact hR
end
end TF
namespace TF
open PySem PySem.Spec L2
open PyProof.Rows hiding St RelV
section
variable {P:Program}{w:World}{K:PySem.W.Frag}{mg:Str->Option Value}{base:Heap}{f:Addr}{fd:FuncData}
theorem HV (F:Fun K "_law_shown" "_law_shown" Aq f fd) (mr:mg "range"=none) (mm:mg "max"=none) (mi:mg "int"=none):FnOk P w K mg base CX0 1 f fd CW (BD K Dw):=by
 refine DM (k:=0) F As (fun ds G R h=>?_) (fun BO A outer s H E ds G R hr h=>?_)
 ·obtain ⟨k,h,w,rfl,_⟩:=h;rfl
 obtain ⟨k,h,w,rfl,nd,hz,bx,hR⟩:=h
 have hu:(A.deeper (envOfC "_law_shown" (AB Aq) s.heap.objs.size f BO)).units+9<cLine:=by have:=hr.units;lia
 have X7:=bx.sm
 have Ue:(BB k k).length≤2000:=by
  unfold BB
  rw [List.length_map,ET]
  lia
 refine Cd 1 As.nd (Mq fun p hp=>?_)
 refine Ce (l:=k.map Ap) (f:=Fd 2 3) (fun i ρ' G'=>(∃x2 x3,ρ'=[some (lay k),some (.fn p),x2,x3,none,none,none,none,none])/\G'=put G p (.dct (BB k (k.take i)))) PassesOwn.never rfl
  (Im (AA 0 rfl) ⟨rfl,⟨none,none,rfl⟩,rfl⟩) (Dk 2 3 rfl As.nd) ?_ ?_
 ·rintro i dd ρ' G' hd ⟨⟨x2,x3,rfl⟩,rfl⟩
  rw [List.getElem?_map]at hd
  obtain ⟨t,ht,rfl⟩:=Option.map_eq_some_iff.mp hd
  have Zb:t∈k:=List.mem_of_getElem? ht
  have et:k.take (i+1)=k.take i++[t]:=by rw [List.take_add_one,ht];rfl
  have hlen:(BB k (k.take i)).length≤2000:=by
   unfold BB
   rw [List.length_map,ET,List.length_take]
   lia
  refine ⟨_,rfl,?_⟩
  refine Fe (d:=.str (chr (Dl t))) hu (IW (l:=[.str (chr 60),.str (chr 94)]) (CA (AD (PX.cast AU rfl) (AD (PX.cast AU rfl) AF))) (SR mi (N5 (Cm (Am (AA 2 rfl) AE rfl) (Am (AA 3 rfl) AE rfl)))) ?_) (AA 1 rfl) (AA 2 rfl) AL (E1 t.1) ⟨_,rfl⟩ (sz1 (by lia)) ?_
  ·unfold Dl
   by_cases h':t.1.2=t.2.2
   ·rw [if_pos h',h'];simp;rfl
   ·rw [if_neg h',if_neg (by simpa using h')];rfl
  rw [BQ]
  refine Fe (d:=.str (chr (Dt t))) hu (IW (l:=[.str (chr 62),.str (chr 118)]) (CA (AD (PX.cast AU rfl) (AD (PX.cast AU rfl) AF))) (SR mi (N5 (Cm (Am (AA 2 rfl) AE rfl) (Am (AA 3 rfl) AE rfl)))) ?_) (AA 1 rfl) (AA 3 rfl) AL (E1 t.2) ⟨_,rfl⟩ (sz1 (Nat.le_trans (PZ _ _ _) (by lia))) (AQ ⟨⟨_,_,rfl⟩,?_⟩)
  ·unfold Dt
   by_cases h':t.1.2=t.2.2
   ·rw [if_pos h',h'];simp;rfl
   ·rw [if_neg h',if_neg (by simpa using h')];rfl
  rw [BQ,et,MK]
  ·refine List.Nodup.sublist ?_ nd
   rw [<-et]
   exact Sb (List.take_sublist _ _)
  ·exact Ji nd Zb
  ·exact NJ nd Zb
 rintro ρ' G' ⟨⟨x2,x3,rfl⟩,rfl⟩
 rw [List.length_map,List.take_length]
 refine AX 4 As.nd (d:=.int h) (PX.cast (BA AE (Rw (ns:=(AM k).map fun q=>q.1) (M:=(h:Int)-1) rfl mm (PX.cast (Hm (Nc:=GV) (caps:=Li) (f:=CT 0) (fun d=>match d with|.tup [.int a,_]=>.int a|_=>.non)
  (CO (psc:=AB Aq) (PN:=Fi) (by decide +kernel) rfl rfl) rfl (AA 1 rfl) AL
  (fun C s' H' fp=>Aj 0 (show GV.Nodup by decide +kernel)) (BI rfl) (sz1 (by lia)) ?_) ?_) ?_ ?_)) ?_) ?_
 ·intro C s' H' fp G2 d hd
  rw [Bv]at hd
  obtain ⟨q,_,rfl⟩:=List.mem_map.mp hd
  exact ⟨_,rfl,Am (AA 0 rfl) AE rfl⟩
 ·rw [Bv,List.map_map,List.map_map];rfl
 ·obtain ⟨q,hq,e⟩:=bx.hh
  exact List.mem_map.mpr ⟨q,hq,by lia⟩
 ·intro a ha
  obtain ⟨q,hq,rfl⟩:=List.mem_map.mp ha
  have:=bx.box q hq
  lia
 ·congr 1;lia
 refine AX 5 As.nd (d:=.int w) (PX.cast (BA AE (Rw (ns:=(AM k).map fun q=>q.2) (M:=(w:Int)-1) rfl mm (PX.cast (Hm (Nc:=GY) (caps:=Lk) (f:=CT 0) (fun d=>match d with|.tup [_,.int a]=>.int a|_=>.non)
  (CO (psc:=AB Aq) (PN:=Fi) (by decide +kernel) rfl rfl) rfl (AA 1 rfl) AL
  (fun C s' H' fp=>Aj 0 (show GY.Nodup by decide +kernel)) (BI rfl) (sz1 (by lia)) ?_) ?_) ?_ ?_)) ?_) ?_
 ·intro C s' H' fp G2 d hd
  rw [Bv]at hd
  obtain ⟨q,_,rfl⟩:=List.mem_map.mp hd
  exact ⟨_,rfl,Am (AA 0 rfl) AE rfl⟩
 ·rw [Bv,List.map_map,List.map_map];rfl
 ·obtain ⟨q,hq,e⟩:=bx.ww
  exact List.mem_map.mpr ⟨q,hq,by lia⟩
 ·intro a ha
  obtain ⟨q,hq,rfl⟩:=List.mem_map.mp ha
  have:=bx.box q hq
  lia
 ·congr 1;lia
 refine AX 6 As.nd (d:=.str (Bh [])) (PX.cast AU rfl) ?_
 refine Ce (l:=A8 0 h) (f:=CT 7) (fun i ρ' G'=>(∃x7 x8,ρ'=[some (lay k),some (.fn p),x2,x3,some (.int h),some (.int w),some (.str (Bh (Ag k i w))),x7,x8])/\G'=put G p (.dct (BB k k))) PassesOwn.never rfl
  (Cw rfl mr (AA 4 rfl) (by lia) (by lia) ⟨rfl,⟨none,none,rfl⟩,rfl⟩) (Aj 7 As.nd) ?_ ?_
 ·rintro i dd ρ' G' hd ⟨⟨x7,x8,rfl⟩,rfl⟩
  obtain ⟨hi,rfl⟩:=De hd
  rw [Int.zero_add]
  refine ⟨_,rfl,?_⟩
  have tl:(Ag k i w).length≤72:=by
   rw [C8]
   exact Nat.le_trans (Nat.mul_le_mul (show i≤8 by lia) (show w+1≤9 by lia)) (by decide)
  refine Ce (l:=A8 0 w) (f:=CT 8) (fun j ρ' G'=>(∃x8,ρ'=[some (lay k),some (.fn p),x2,x3,some (.int h),some (.int w),some (.str (Bh (Ag k i w++A5 k j i))),some (.int (i:Nat)),x8])/\G'=put G p (.dct (BB k k))) PassesOwn.never rfl
   (Cw rfl mr (AA 5 rfl) (by lia) (by lia) ⟨rfl,⟨_,by simp [A5];rfl⟩,rfl⟩) (Aj 8 As.nd) ?_ ?_
  ·rintro j dd ρ' G' hd ⟨⟨x8,rfl⟩,rfl⟩
   obtain ⟨hj,rfl⟩:=De hd
   rw [Int.zero_add]
   refine ⟨_,rfl,AX 6 As.nd (d:=.str (Bh (Ag k i w++A5 k (j+1) i))) (PX.cast (CI (x:=Bh (Ag k i w++A5 k j i)) (y:=chr (sgn k ((i:Int),(j:Int)))) (AA 6 rfl) (PX.cast (O7 (k:=sq ((i:Int),(j:Int))) hu (AA 1 rfl) (CD (AD (AA 7 rfl) (AD (AA 8 rfl) AF))) (dd:=.str (chr 46)) (PX.cast AU rfl) AL (E1 _) ⟨_,rfl⟩) (Ob k _)) (sz (by rw [DU,List.length_append];simp [A5,chr,Str.length];lia))) ?_) (AQ ⟨⟨_,rfl⟩,rfl⟩)⟩
   congr 1
   refine Hb ?_
   rw [CK,Ci,Ci]
   unfold A5
   rw [List.range_succ,List.map_append,<-List.append_assoc]
   rfl
  ·rintro ρ' G' ⟨⟨x8,rfl⟩,rfl⟩
   rw [Bu]
   refine AX 6 As.nd (d:=.str (Bh (Ag k (i+1) w))) (PX.cast (CI (x:=Bh (Ag k i w++A5 k w i)) (y:=chr 10) (AA 6 rfl) (PX.cast AU rfl) (sz (by rw [DU,List.length_append];simp [A5,chr,Str.length];lia))) ?_) (AQ ⟨⟨_,_,rfl⟩,rfl⟩)
   congr 1
   refine Hb ?_
   rw [CK,Ci,Ci]
   unfold Ag
   rw [List.range_succ,List.flatMap_append]
   simp [chr]
 ·rintro ρ' G' ⟨⟨x7,x8,rfl⟩,rfl⟩
  rw [Bu]
  refine Cg (G8 (PX.we (AA 6 rfl) ⟨p,?_⟩))
  rw [DI hp]
  exact hR
end
theorem BU {α:Type} {us:List α} (h:us.length=1):∃a,us=[a]:=by
 cases us with
 |nil=>simp at h
 |cons a us=>
 cases us with
 |nil=>exact ⟨a,rfl⟩
 |cons z us=>simp at h;try lia
theorem Ft {α:Type} {us:List α} (h:us.length=2):∃a b,us=[a,b]:=by
 cases us with
 |nil=>simp at h
 |cons a us=>
 cases us with
 |nil=>simp at h
 |cons b us=>
 cases us with
 |nil=>exact ⟨a,b,rfl⟩
 |cons z us=>simp at h;try lia
theorem Rr {α:Type} {us:List α} (h:us.length=3):∃a b c,us=[a,b,c]:=by
 cases us with
 |nil=>simp at h
 |cons a us=>
 cases us with
 |nil=>simp at h
 |cons b us=>
 cases us with
 |nil=>simp at h
 |cons c us=>
 cases us with
 |nil=>exact ⟨a,b,c,rfl⟩
 |cons z us=>simp at h;try lia
theorem XF {α:Type} {us:List α} (h:us.length=4):∃a b c d,us=[a,b,c,d]:=by
 cases us with
 |nil=>simp at h
 |cons a us=>
 cases us with
 |nil=>simp at h
 |cons b us=>
 cases us with
 |nil=>simp at h
 |cons c us=>
 cases us with
 |nil=>simp at h
 |cons d us=>
 cases us with
 |nil=>exact ⟨a,b,c,d,rfl⟩
 |cons z us=>simp at h;try lia
theorem all_mk {l:PySem.W.OpenLaw} {w:World} {K:PySem.W.Frag} {h:Heap} {mg:Str->Option Value} {fa:Addr} (X:K.In h) (G:h.Ns mainGlobals mg) (ud:mg "law"=some (.ref fa))
  {f0:Addr} {wG xo:Option Addr} {mF:Array (Option Value)} {tw tO vZ uZ gu uL:Value} (a0:PySem.W.nsIn K mainGlobals "is_number"=some (some (.ref f0))) (l0:K.lookup f0=some ⟨tw,wG,.func (PySem.W.fnOf "is_number" "is_number" (AI BK) (AH BK) (AB BK) .none tO vZ uZ xo gu uL),mF⟩) (c0:PySem.W.codeIn K gu "is_number"=true) (k0:PySem.W.keepIn K (.ref f0)=true)
  {f1:Addr} {uo so:Option Addr} {iR:Array (Option Value)} {wy xN vE uU qX xy:Value} (a1:PySem.W.nsIn K mainGlobals "is_pair"=some (some (.ref f1))) (l1:K.lookup f1=some ⟨wy,uo,.func (PySem.W.fnOf "is_pair" "is_pair" (AI B2) (AH B2) (AB B2) .none xN vE uU so qX xy),iR⟩) (c1:PySem.W.codeIn K qX "is_pair"=true) (k1:PySem.W.keepIn K (.ref f1)=true)
  {f2:Addr} {yd uz:Option Addr} {Vc:Array (Option Value)} {yO uJ uY wN qL vm:Value} (a2:PySem.W.nsIn K mainGlobals "is_place"=some (some (.ref f2))) (l2:K.lookup f2=some ⟨yO,yd,.func (PySem.W.fnOf "is_place" "is_place" (AI Bd) (AH Bd) (AB Bd) .none uJ uY wN uz qL vm),Vc⟩) (c2:PySem.W.codeIn K qL "is_place"=true) (k2:PySem.W.keepIn K (.ref f2)=true)
  {f3:Addr} {t4 yf:Option Addr} {wb:Array (Option Value)} {vR w8 vF xf rS tY:Value} (a3:PySem.W.nsIn K mainGlobals "is_square"=some (some (.ref f3))) (l3:K.lookup f3=some ⟨vR,t4,.func (PySem.W.fnOf "is_square" "is_square" (AI BH) (AH BH) (AB BH) .none w8 vF xf yf rS tY),wb⟩) (c3:PySem.W.codeIn K rS "is_square"=true) (k3:PySem.W.keepIn K (.ref f3)=true)
  {f4:Addr} {v3 vf:Option Addr} {vz:Array (Option Value)} {vQ tf yD xW rL vg:Value} (a4:PySem.W.nsIn K mainGlobals "is_rising"=some (some (.ref f4))) (l4:K.lookup f4=some ⟨vQ,v3,.func (PySem.W.fnOf "is_rising" "is_rising" (AI Ay) (AH Ay) (AB Ay) .none tf yD xW vf rL vg),vz⟩) (c4:PySem.W.codeIn K rL "is_rising"=true) (k4:PySem.W.keepIn K (.ref f4)=true)
  {f5:Addr} {wD xA:Option Addr} {wZ:Array (Option Value)} {yW xc wx wA qH wF:Value} (a5:PySem.W.nsIn K mainGlobals "checked"=some (some (.ref f5))) (l5:K.lookup f5=some ⟨yW,wD,.func (PySem.W.fnOf "checked" "checked" (AI Bo) (AH Bo) (AB Bo) .none xc wx wA xA qH wF),wZ⟩) (c5:PySem.W.codeIn K qH "checked"=true) (k5:PySem.W.keepIn K (.ref f5)=true)
  {f6:Addr} {tP sv:Option Addr} {xj:Array (Option Value)} {tN vq u4 xg qS xI:Value} (a6:PySem.W.nsIn K mainGlobals "covered"=some (some (.ref f6))) (l6:K.lookup f6=some ⟨tN,tP,.func (PySem.W.fnOf "covered" "covered" (AI Bk) (AH Bk) (AB Bk) .none vq u4 xg sv qS xI),xj⟩) (c6:PySem.W.codeIn K qS "covered"=true) (k6:PySem.W.keepIn K (.ref f6)=true)
  {f7:Addr} {sh sk:Option Addr} {xb:Array (Option Value)} {xX vk vh vG qb xP:Value} (a7:PySem.W.nsIn K mainGlobals "signs_of"=some (some (.ref f7))) (l7:K.lookup f7=some ⟨xX,sh,.func (PySem.W.fnOf "signs_of" "signs_of" (AI BM) (AH BM) (AB BM) .none vk vh vG sk qb xP),xb⟩) (c7:PySem.W.codeIn K qb "signs_of"=true) (k7:PySem.W.keepIn K (.ref f7)=true)
  {f8:Addr} {yG yE:Option Addr} {vj:Array (Option Value)} {x6 yH uD wg qy u5:Value} (a8:PySem.W.nsIn K mainGlobals "shown_row"=some (some (.ref f8))) (l8:K.lookup f8=some ⟨x6,yG,.func (PySem.W.fnOf "shown_row" "shown_row" (AI Az) (AH Az) (AB Az) .none yH uD wg yE qy u5),vj⟩) (c8:PySem.W.codeIn K qy "shown_row"=true) (k8:PySem.W.keepIn K (.ref f8)=true)
  {f9:Addr} {yc tu:Option Addr} {xt:Array (Option Value)} {vt uM tI tV rT xZ:Value} (a9:PySem.W.nsIn K mainGlobals "shown"=some (some (.ref f9))) (l9:K.lookup f9=some ⟨vt,yc,.func (PySem.W.fnOf "shown" "shown" (AI CL) (AH CL) (AB CL) .none uM tI tV tu rT xZ),xt⟩) (c9:PySem.W.codeIn K rT "shown"=true) (k9:PySem.W.keepIn K (.ref f9)=true)
  {dQ:Addr} {iN lB:Option Addr} {oF:Array (Option Value)} {oa jC kC jQ gH pG:Value} (xY:PySem.W.nsIn K mainGlobals "stones_in"=some (some (.ref dQ))) (wY:K.lookup dQ=some ⟨oa,iN,.func (PySem.W.fnOf "stones_in" "stones_in" (AI BJ) (AH BJ) (AB BJ) .none jC kC jQ lB gH pG),oF⟩) (yM:PySem.W.codeIn K gH "stones_in"=true) (kS:PySem.W.keepIn K (.ref dQ)=true)
  {iE:Addr} {n6 pT:Option Addr} {j6:Array (Option Value)} {lF kI i8 kP fh n8:Value} (ub:PySem.W.nsIn K mainGlobals "read"=some (some (.ref iE))) (uA:K.lookup iE=some ⟨lF,n6,.func (PySem.W.fnOf "read" "read" (AI EY) (AH EY) (AB EY) .none kI i8 kP pT fh n8),j6⟩) (xp:PySem.W.codeIn K fh "read"=true) (r8:PySem.W.keepIn K (.ref iE)=true)
  {dJ:Addr} {i6 kq:Option Addr} {pM:Array (Option Value)} {jP oR kM kE cg lN:Value} (wR:PySem.W.nsIn K mainGlobals "_law_cell"=some (some (.ref dJ))) (vy:K.lookup dJ=some ⟨jP,i6,.func (PySem.W.fnOf "_law_cell" "_law_cell" (AI Bj) (AH Bj) (AB Bj) .none oR kM kE kq cg lN),pM⟩) (wO:PySem.W.codeIn K cg "_law_cell"=true) (m7:PySem.W.keepIn K (.ref dJ)=true)
  {de:Addr} {lP pO:Option Addr} {mZ:Array (Option Value)} {nY oY ik nZ cz nW:Value} (xC:PySem.W.nsIn K mainGlobals "_law_mix"=some (some (.ref de))) (xv:K.lookup de=some ⟨nY,lP,.func (PySem.W.fnOf "_law_mix" "_law_mix" (AI B8) (AH B8) (AB B8) .none oY ik nZ pO cz nW),mZ⟩) (uE:PySem.W.codeIn K cz "_law_mix"=true) (j7:PySem.W.keepIn K (.ref de)=true)
  {gL:Addr} {iw ku:Option Addr} {pW:Array (Option Value)} {nV jl kf nP df pS:Value} (se:PySem.W.nsIn K mainGlobals "_law_floor"=some (some (.ref gL))) (xU:K.lookup gL=some ⟨nV,iw,.func (PySem.W.fnOf "_law_floor" "_law_floor" (AI Ao) (AH Ao) (AB Ao) .none jl kf nP ku df pS),pW⟩) (ux:PySem.W.codeIn K df "_law_floor"=true) (gB:PySem.W.keepIn K (.ref gL)=true)
  {eR:Addr} {p8 kh:Option Addr} {kH:Array (Option Value)} {nq mL jt i4 gO j4:Value} (vY:PySem.W.nsIn K mainGlobals "_law_near"=some (some (.ref eR))) (wH:K.lookup eR=some ⟨nq,p8,.func (PySem.W.fnOf "_law_near" "_law_near" (AI BC) (AH BC) (AB BC) .none mL jt i4 kh gO j4),kH⟩) (tX:PySem.W.codeIn K gO "_law_near"=true) (mI:PySem.W.keepIn K (.ref eR)=true)
  {eL:Addr} {ir iP:Option Addr} {iz:Array (Option Value)} {jx ni kA p6 eN lg:Value} (u9:PySem.W.nsIn K mainGlobals "_law_every"=some (some (.ref eL))) (sX:K.lookup eL=some ⟨jx,ir,.func (PySem.W.fnOf "_law_every" "_law_every" (AI An) (AH An) (AB An) .none ni kA p6 iP eN lg),iz⟩) (vc:PySem.W.codeIn K eN "_law_every"=true) (iX:PySem.W.keepIn K (.ref eL)=true)
  {fX:Addr} {pZ iU:Option Addr} {nO:Array (Option Value)} {jk kQ mE oZ fQ iW:Value} (vo:PySem.W.nsIn K mainGlobals "_law_all"=some (some (.ref fX))) (v5:K.lookup fX=some ⟨jk,pZ,.func (PySem.W.fnOf "_law_all" "_law_all" (AI BV) (AH BV) (AB BV) .none kQ mE oZ iU fQ iW),nO⟩) (vV:PySem.W.codeIn K fQ "_law_all"=true) (iS:PySem.W.keepIn K (.ref fX)=true)
  {eK:Addr} {pH pv:Option Addr} {pR:Array (Option Value)} {pX nh nJ kc dz ij:Value} (vd:PySem.W.nsIn K mainGlobals "_law_is_laying"=some (some (.ref eK))) (yJ:K.lookup eK=some ⟨pX,pH,.func (PySem.W.fnOf "_law_is_laying" "_law_is_laying" (AI AY) (AH AY) (AB AY) .none nh nJ kc pv dz ij),pR⟩) (uX:PySem.W.codeIn K dz "_law_is_laying"=true) (lZ:PySem.W.keepIn K (.ref eK)=true)
  {eS:Addr} {nC km:Option Addr} {m6:Array (Option Value)} {nQ iq m8 oz el nK:Value} (yQ:PySem.W.nsIn K mainGlobals "_law_shown"=some (some (.ref eS))) (vi:K.lookup eS=some ⟨nQ,nC,.func (PySem.W.fnOf "_law_shown" "_law_shown" (AI Aq) (AH Aq) (AB Aq) .none iq m8 oz km el nK),m6⟩) (xw:PySem.W.codeIn K el "_law_shown"=true) (jF:PySem.W.keepIn K (.ref eS)=true)
  {eD:Addr} {ov jm:Option Addr} {m9:Array (Option Value)} {mv pK nT oU cn iu:Value} (yA:PySem.W.nsIn K mainGlobals "_law_refused"=some (some (.ref eD))) (wq:K.lookup eD=some ⟨mv,ov,.func (PySem.W.fnOf "_law_refused" "_law_refused" (AI Av) (AH Av) (AB Av) .none pK nT oU jm cn iu),m9⟩) (vI:PySem.W.codeIn K cn "_law_refused"=true) (kX:PySem.W.keepIn K (.ref eD)=true)
  {cy:Addr} {ko lU:Option Addr} {oq:Array (Option Value)} {mC qD lA ox eE nF:Value} (tv:PySem.W.nsIn K mainGlobals "_law_by_base"=some (some (.ref cy))) (tT:K.lookup cy=some ⟨mC,ko,.func (PySem.W.fnOf "_law_by_base" "_law_by_base" (AI Au) (AH Au) (AB Au) .none qD lA ox lU eE nF),oq⟩) (ue:PySem.W.codeIn K eE "_law_by_base"=true) (ny:PySem.W.keepIn K (.ref cy)=true)
  {d9:Addr} {jV nI:Option Addr} {i5:Array (Option Value)} {iV iZ jO oV dS mQ:Value} (wK:PySem.W.nsIn K mainGlobals "_law_none"=some (some (.ref d9))) (vw:K.lookup d9=some ⟨iV,jV,.func (PySem.W.fnOf "_law_none" "_law_none" (AI Be) (AH Be) (AB Be) .none iZ jO oV nI dS mQ),i5⟩) (t6:PySem.W.codeIn K dS "_law_none"=true) (jg:PySem.W.keepIn K (.ref d9)=true)
  {cq:Addr} {oS nU:Option Addr} {nj:Array (Option Value)} {pq mY lX mR fD pC:Value} (xF:PySem.W.nsIn K mainGlobals "_law_spoilt"=some (some (.ref cq))) (w9:K.lookup cq=some ⟨pq,oS,.func (PySem.W.fnOf "_law_spoilt" "_law_spoilt" (AI A9) (AH A9) (AB A9) .none mY lX mR nU fD pC),nj⟩) (xn:PySem.W.codeIn K fD "_law_spoilt"=true) (nR:PySem.W.keepIn K (.ref cq)=true)
  {cm:Addr} {pJ i3:Option Addr} {mT:Array (Option Value)} {ke jq jv mS fb i7:Value} (uF:PySem.W.nsIn K mainGlobals "_law_is_floor"=some (some (.ref cm))) (xM:K.lookup cm=some ⟨ke,pJ,.func (PySem.W.fnOf "_law_is_floor" "_law_is_floor" (AI AZ) (AH AZ) (AB AZ) .none jq jv mS i3 fb i7),mT⟩) (td:PySem.W.codeIn K fb "_law_is_floor"=true) (ie:PySem.W.keepIn K (.ref cm)=true)
  {iT:Addr} {ic fo:Option Addr} {kK:Array (Option Value)} {nA gF cu d8 aX eY:Value} (qq:PySem.W.nsIn K mainGlobals "law"=some (some (.ref iT))) (yF:K.lookup iT=some ⟨nA,ic,.func (PySem.W.fnOf "law" "law" (AI EE) (AH EE) (AB EE) .none gF cu d8 fo aX eY),kK⟩) (wj:PySem.W.codeIn K aX "law"=true) (xh:PySem.W.keepIn K (.ref iT)=true)
  (gR:PySem.W.nsIn K mainGlobals "len"=some none) (Wv:PySem.W.nsIn K mainGlobals "range"=some none) (dA:PySem.W.nsIn K mainGlobals "min"=some none) (fL:PySem.W.nsIn K mainGlobals "max"=some none) (X9:PySem.W.nsIn K mainGlobals "tuple"=some none) (Vx:PySem.W.nsIn K mainGlobals "sorted"=some none) (Nj:PySem.W.nsIn K mainGlobals "isinstance"=some none) (fC:PySem.W.nsIn K mainGlobals "int"=some none) (aT:PySem.W.nsIn K mainGlobals "bool"=some none) (fz:PySem.W.nsIn K mainGlobals "all"=some none) (fW:PySem.W.nsIn K mainGlobals "zip"=some none) (dX:PySem.W.nsIn K mainGlobals "str"=some none) (OA:PySem.W.nsIn K mainGlobals "enumerate"=some none) (br:PySem.W.nsIn K mainGlobals "list"=some none) (NA:PySem.W.nsIn K mainGlobals "ValueError"=some none) (Qs:PySem.W.nsIn K mainGlobals "reversed"=some none) (fw:PySem.W.nsIn K mainGlobals "set"=some none) {N0:Tok} (OX:PySem.W.nsIn K mainGlobals "LAST_LINE"=some (some (.int 7 N0))) {LS:Tok} (Kr:PySem.W.nsIn K mainGlobals "MOST_SQUARES"=some (some (.int 24 LS))) {NH:Tok} (Mr:PySem.W.nsIn K mainGlobals "MOST_SIGNS"=some (some (.int 72 NH))) {Cp:Addr} (QH:PySem.W.nsIn K mainGlobals "BadFloor"=some (some (.ref Cp))) (Kb:PySem.W.excIn K Cp [.type "ValueError",.type "Exception",.type "BaseException",.type "object"] "ValueError.__new__"=true) {DR:Addr} (Sh:PySem.W.nsIn K mainGlobals "BadText"=some (some (.ref DR))) (EO:PySem.W.excIn K DR [.type "ValueError",.type "Exception",.type "BaseException",.type "object"] "ValueError.__new__"=true) {Ee:Addr} (NS:PySem.W.nsIn K mainGlobals "FloorError"=some (some (.ref Ee))) (Hv:PySem.W.excIn K Ee [.type "ValueError",.type "Exception",.type "BaseException",.type "object"] "ValueError.__new__"=true) (GK:Bi K Cp Cp=true) (Dz:Bi K DR DR=true) (C4:Bi K DR Ee=true)  :
  ∃fd:FuncData,(∀(s:Shared) (v:Value),BindsTo s fd ⟨[v],[]⟩ [("_law_script",v)])/\∀base:Heap,K.In base->base.Ns mainGlobals mg->FnOk l.prog w K mg base CX0 16 fa fd ["_law_script"] (BD K NM):=by
 have e:=ud.symm.trans (PySem.W.mg_of X G qq)
 cases e
 have Dg:=PySem.W.mg_none_of X G gR
 have Dx:=PySem.W.mg_none_of X G Wv
 have Y5:=PySem.W.mg_none_of X G dA
 have MQ:=PySem.W.mg_none_of X G fL
 have BR:=PySem.W.mg_none_of X G X9
 have C7:=PySem.W.mg_none_of X G Vx
 have Ai:=PySem.W.mg_none_of X G Nj
 have SQ:=PySem.W.mg_none_of X G fC
 have Ug:=PySem.W.mg_none_of X G aT
 have VJ:=PySem.W.mg_none_of X G fz
 have Yq:=PySem.W.mg_none_of X G fW
 have eU:=PySem.W.mg_none_of X G dX
 have Dv:=PySem.W.mg_none_of X G OA
 have Ia:=PySem.W.mg_none_of X G br
 have Hg:=PySem.W.mg_none_of X G NA
 have Kq:=PySem.W.mg_none_of X G Qs
 have Zd:=PySem.W.mg_none_of X G fw
 have Ew:=PySem.W.mg_of X G OX
 have Kf:=PySem.W.mg_of X G Kr
 have NT:=PySem.W.mg_of X G Mr
 have LD:=PySem.W.mg_of X G QH
 have Ii:=PySem.W.mg_of X G Sh
 have Hl:=PySem.W.mg_of X G NS
 have F0:=Aw (st:=BK) l0 c0 k0
 have b0:=F0.binds (ps:=CS) fun _ _ _ _ _ _ us hl=>by obtain ⟨_,rfl⟩:=BU hl;rfl
 have g0:=PySem.W.mg_of X G a0
 have F1:=Aw (st:=B2) l1 c1 k1
 have b1:=F1.binds (ps:=DT) fun _ _ _ _ _ _ us hl=>by obtain ⟨_,rfl⟩:=BU hl;rfl
 have g1:=PySem.W.mg_of X G a1
 have F2:=Aw (st:=Bd) l2 c2 k2
 have b2:=F2.binds (ps:=Cs) fun _ _ _ _ _ _ us hl=>by obtain ⟨_,rfl⟩:=BU hl;rfl
 have g2:=PySem.W.mg_of X G a2
 have F3:=Aw (st:=BH) l3 c3 k3
 have b3:=F3.binds (ps:=CV) fun _ _ _ _ _ _ us hl=>by obtain ⟨_,rfl⟩:=BU hl;rfl
 have g3:=PySem.W.mg_of X G a3
 have F4:=Aw (st:=Ay) l4 c4 k4
 have b4:=F4.binds (ps:=CQ) fun _ _ _ _ _ _ us hl=>by obtain ⟨_,rfl⟩:=BU hl;rfl
 have g4:=PySem.W.mg_of X G a4
 have F5:=Aw (st:=Bo) l5 c5 k5
 have b5:=F5.binds (ps:=DO) fun _ _ _ _ _ _ us hl=>by obtain ⟨_,rfl⟩:=BU hl;rfl
 have g5:=PySem.W.mg_of X G a5
 have F6:=Aw (st:=Bk) l6 c6 k6
 have b6:=F6.binds (ps:=DQ) fun _ _ _ _ _ _ us hl=>by obtain ⟨_,rfl⟩:=BU hl;rfl
 have g6:=PySem.W.mg_of X G a6
 have F7:=Aw (st:=BM) l7 c7 k7
 have b7:=F7.binds (ps:=Cv) fun _ _ _ _ _ _ us hl=>by obtain ⟨_,rfl⟩:=BU hl;rfl
 have g7:=PySem.W.mg_of X G a7
 have F8:=Aw (st:=Az) l8 c8 k8
 have b8:=F8.binds (ps:=CP) fun _ _ _ _ _ _ us hl=>by obtain ⟨_,_,_,rfl⟩:=Rr hl;rfl
 have g8:=PySem.W.mg_of X G a8
 have F9:=Aw (st:=CL) l9 c9 k9
 have b9:=F9.binds (ps:=Fs) fun _ _ _ _ _ _ us hl=>by obtain ⟨_,rfl⟩:=BU hl;rfl
 have g9:=PySem.W.mg_of X G a9
 have kB:=Aw (st:=BJ) wY yM kS
 have qr:=kB.binds (ps:=CZ) fun _ _ _ _ _ _ us hl=>by obtain ⟨_,rfl⟩:=BU hl;rfl
 have qo:=PySem.W.mg_of X G xY
 have qw:=Aw (st:=EY) uA xp r8
 have xK:=qw.binds (ps:=HA) fun _ _ _ _ _ _ us hl=>by obtain ⟨_,rfl⟩:=BU hl;rfl
 have va:=PySem.W.mg_of X G ub
 have jB:=Aw (st:=Bj) vy wO m7
 have qG:=jB.binds (ps:=Bz) fun _ _ _ _ _ _ us hl=>by obtain ⟨_,_,rfl⟩:=Ft hl;rfl
 have rZ:=PySem.W.mg_of X G wR
 have lG:=Aw (st:=B8) xv uE j7
 have rP:=lG.binds (ps:=Cz) fun _ _ _ _ _ _ us hl=>by obtain ⟨_,_,_,rfl⟩:=Rr hl;rfl
 have rh:=PySem.W.mg_of X G xC
 have kG:=Aw (st:=Ao) xU ux gB
 have qT:=kG.binds (ps:=CY) fun _ _ _ _ _ _ us hl=>by obtain ⟨_,_,rfl⟩:=Ft hl;rfl
 have sC:=PySem.W.mg_of X G se
 have ou:=Aw (st:=BC) wH tX mI
 have rg:=ou.binds (ps:=CM) fun _ _ _ _ _ _ us hl=>by obtain ⟨_,_,rfl⟩:=Ft hl;rfl
 have qm:=PySem.W.mg_of X G vY
 have ig:=Aw (st:=An) sX vc iX
 have qt:=ig.binds (ps:=Ca) fun _ _ _ _ _ _ us hl=>by obtain ⟨_,_,rfl⟩:=Ft hl;rfl
 have qO:=PySem.W.mg_of X G u9
 have oX:=Aw (st:=BV) v5 vV iS
 have sP:=oX.binds (ps:=DP) fun _ _ _ _ _ _ us hl=>by obtain ⟨_,rfl⟩:=BU hl;rfl
 have ri:=PySem.W.mg_of X G vo
 have ll:=Aw (st:=AY) yJ uX lZ
 have rH:=ll.binds (ps:=BF) fun _ _ _ _ _ _ us hl=>by obtain ⟨_,_,rfl⟩:=Ft hl;rfl
 have qg:=PySem.W.mg_of X G vd
 have ji:=Aw (st:=Aq) vi xw jF
 have sE:=ji.binds (ps:=CW) fun _ _ _ _ _ _ us hl=>by obtain ⟨_,rfl⟩:=BU hl;rfl
 have rO:=PySem.W.mg_of X G yQ
 have ng:=Aw (st:=Av) wq vI kX
 have ql:=ng.binds (ps:=Bl) fun _ _ _ _ _ _ us hl=>by obtain ⟨_,rfl⟩:=BU hl;rfl
 have rQ:=PySem.W.mg_of X G yA
 have jj:=Aw (st:=Au) tT ue ny
 have rX:=jj.binds (ps:=Bm) fun _ _ _ _ _ _ us hl=>by obtain ⟨_,rfl⟩:=BU hl;rfl
 have rG:=PySem.W.mg_of X G tv
 have mB:=Aw (st:=Be) vw t6 jg
 have qI:=mB.binds (ps:=Cy) fun _ _ _ _ _ _ us hl=>by obtain ⟨_,_,rfl⟩:=Ft hl;rfl
 have sL:=PySem.W.mg_of X G wK
 have oJ:=Aw (st:=A9) w9 xn nR
 have qv:=oJ.binds (ps:=B7) fun _ _ _ _ _ _ us hl=>by obtain ⟨_,_,_,_,rfl⟩:=XF hl;rfl
 have qP:=PySem.W.mg_of X G xF
 have lT:=Aw (st:=AZ) xM td ie
 have rq:=lT.binds (ps:=BW) fun _ _ _ _ _ _ us hl=>by obtain ⟨_,rfl⟩:=BU hl;rfl
 have qx:=PySem.W.mg_of X G uF
 have wV:=Aw (st:=EE) yF wj xh
 have yk:=PySem.W.mg_of X G qq
 refine ⟨PySem.W.fnOf "law" "law" (AI EE) (AH EE) (AB EE) .none gF cu d8 fo aX eY,fun s v=>.of_eq rfl,fun base _ _=>?_⟩
 have OQ:Df l.prog w K mg base "is_number" CS 1 (HZ):=⟨f0,_,Hh F0 Ai SQ Ug,g0,k0,b0⟩
 have fP:∃f',mg "is_number"=some (.ref f')/\DfA l.prog w K mg base f' CS 1 (HZ):=⟨f0,g0,_,Hh F0 Ai SQ Ug,k0,b0⟩
 have Sd:Df l.prog w K mg base "is_pair" DT 1 (Jq):=⟨f1,_,Kx F1 Ai BR Dg,g1,k1,b1⟩
 have hW:∃f',mg "is_pair"=some (.ref f')/\DfA l.prog w K mg base f' DT 1 (Jq):=⟨f1,g1,_,Kx F1 Ai BR Dg,k1,b1⟩
 have SS:Df l.prog w K mg base "is_place" Cs 2 (JZ):=⟨f2,_,JR F2 Sd OQ,g2,k2,b2⟩
 have gf:∃f',mg "is_place"=some (.ref f')/\DfA l.prog w K mg base f' Cs 2 (JZ):=⟨f2,g2,_,JR F2 Sd OQ,k2,b2⟩
 have Um:Df l.prog w K mg base "is_square" CV 3 (Fo):=⟨f3,_,Hu F3 Ew SS,g3,k3,b3⟩
 have eh:∃f',mg "is_square"=some (.ref f')/\DfA l.prog w K mg base f' CV 3 (Fo):=⟨f3,g3,_,Hu F3 Ew SS,k3,b3⟩
 have VW:Df l.prog w K mg base "is_rising" CQ 1 (II):=⟨f4,_,HM F4 VJ Yq,g4,k4,b4⟩
 have fJ:∃f',mg "is_rising"=some (.ref f')/\DfA l.prog w K mg base f' CQ 1 (II):=⟨f4,g4,_,HM F4 VJ Yq,k4,b4⟩
 have Mf:DfC l.prog w K mg base "checked" DO 4 (Fy Cp):=by
  exact ⟨f5,_,Nw F5 Ai BR Dg VJ Kf Ew LD Kb Um VW,g5,k5,b5⟩
 have cU:DfX l.prog w K mg base "checked" DO 4 (Fy Cp):=by
  exact Mf.toV
 have TZ:Df l.prog w K mg base "covered" DQ 1 (Fz):=⟨f6,_,KA F6 C7,g6,k6,b6⟩
 have cW:∃f',mg "covered"=some (.ref f')/\DfA l.prog w K mg base f' DQ 1 (Fz):=⟨f6,g6,_,KA F6 C7,k6,b6⟩
 have RD:Df l.prog w K mg base "signs_of" Cv 1 (Jl):=⟨f7,_,Iq F7,g7,k7,b7⟩
 have gs:∃f',mg "signs_of"=some (.ref f')/\DfA l.prog w K mg base f' Cv 1 (Jl):=⟨f7,g7,_,Iq F7,k7,b7⟩
 have Wa:Df l.prog w K mg base "shown_row" CP 1 (Mt):=⟨f8,_,HW F8 Dx,g8,k8,b8⟩
 have nH:∃f',mg "shown_row"=some (.ref f')/\DfA l.prog w K mg base f' CP 1 (Mt):=⟨f8,g8,_,HW F8 Dx,k8,b8⟩
 have YR:Df l.prog w K mg base "shown" Fs 2 (Dw):=⟨f9,_,OE F9 Dx MQ RD Wa,g9,k9,b9⟩
 have gb:∃f',mg "shown"=some (.ref f')/\DfA l.prog w K mg base f' Fs 2 (Dw):=⟨f9,g9,_,OE F9 Dx MQ RD Wa,k9,b9⟩
 have U2:Df l.prog w K mg base "stones_in" CZ 1 (Hy):=⟨dQ,_,ID kB Dv BR,qo,kS,qr⟩
 have eJ:∃f',mg "stones_in"=some (.ref f')/\DfA l.prog w K mg base f' CZ 1 (Hy):=⟨dQ,qo,_,ID kB Dv BR,kS,qr⟩
 have LF:DfX l.prog w K mg base "read" HA 5 (HP DR):=⟨iE,_,U9 qw Ai eU Dg BR NT LD Kb GK Ii EO U2 Mf TZ YR,va,r8,xK⟩
 have HD:Df l.prog w K mg base "_law_cell" Bz 1 (Ij):=⟨dJ,_,JQ jB Dg,rZ,m7,qG⟩
 have aW:∃f',mg "_law_cell"=some (.ref f')/\DfA l.prog w K mg base f' Bz 1 (Ij):=⟨dJ,rZ,_,JQ jB Dg,m7,qG⟩
 have L4:Df l.prog w K mg base "_law_mix" Cz 1 (N8):=⟨de,_,Kl lG,rh,j7,rP⟩
 have cX:∃f',mg "_law_mix"=some (.ref f')/\DfA l.prog w K mg base f' Cz 1 (N8):=⟨de,rh,_,Kl lG,j7,rP⟩
 have Oc:Df l.prog w K mg base "_law_floor" CY 2 (Js):=⟨gL,_,He kG Dg Dx BR MQ Y5 HD L4,sC,gB,qT⟩
 have ZZ:∃f',mg "_law_floor"=some (.ref f')/\DfA l.prog w K mg base f' CY 2 (Js):=⟨gL,sC,_,He kG Dg Dx BR MQ Y5 HD L4,gB,qT⟩
 have Ef:Df l.prog w K mg base "_law_near" CM 1 (Kz):=⟨eR,_,JH ou,qm,mI,rg⟩
 have Zu:∃f',mg "_law_near"=some (.ref f')/\DfA l.prog w K mg base f' CM 1 (Kz):=⟨eR,qm,_,JH ou,mI,rg⟩
 have Iy:∀n,Df l.prog w K mg base "_law_every" Ca (n+2) (Jb n):=by
  intro n
  induction n with
  |zero=>exact ⟨eL,_,HI 0 ig BR Ef (fun m h=>by cases h),qO,iX,qt⟩
  |succ m ih=>exact ⟨eL,_,HI (m+1) ig BR Ef (fun m' h=>by cases h;exact ih),qO,iX,qt⟩
 have Tx:Df l.prog w K mg base "_law_all" DP 15 (RW):=⟨fX,_,KZ oX BR C7 (Iy 12),ri,iS,sP⟩
 have cS:∃f',mg "_law_all"=some (.ref f')/\DfA l.prog w K mg base f' DP 15 (RW):=⟨fX,ri,_,KZ oX BR C7 (Iy 12),iS,sP⟩
 have XM:Df l.prog w K mg base "_law_is_laying" BF 2 (Jg):=⟨eK,_,ER ll Ai BR Dg Dv C7 Ia Ef,qg,lZ,rH⟩
 have gz:∃f',mg "_law_is_laying"=some (.ref f')/\DfA l.prog w K mg base f' BF 2 (Jg):=⟨eK,qg,_,ER ll Ai BR Dg Dv C7 Ia Ef,lZ,rH⟩
 have VO:Df l.prog w K mg base "_law_shown" CW 1 (Dw):=⟨eS,_,HV ji Dx MQ SQ,rO,jF,sE⟩
 have gM:∃f',mg "_law_shown"=some (.ref f')/\DfA l.prog w K mg base f' CW 1 (Dw):=⟨eS,rO,_,HV ji Dx MQ SQ,jF,sE⟩
 have Sz:Df l.prog w K mg base "_law_refused" Bl 6 (Nl):=⟨eD,_,Ep ng Ii EO Dz LF,rQ,kX,ql⟩
 have cO:∃f',mg "_law_refused"=some (.ref f')/\DfA l.prog w K mg base f' Bl 6 (Nl):=⟨eD,rQ,_,Ep ng Ii EO Dz LF,kX,ql⟩
 have UD:Df l.prog w K mg base "_law_by_base" Bm 6 (Rz):=⟨cy,_,FG jj Ai Hg Hl EO Hv C4 LF,rG,ny,rX⟩
 have cZ:∃f',mg "_law_by_base"=some (.ref f')/\DfA l.prog w K mg base f' Bm 6 (Rz):=⟨cy,rG,_,FG jj Ai Hg Hl EO Hv C4 LF,ny,rX⟩
 have aQ:Df l.prog w K mg base "_law_none" Cy 1 (Jk):=⟨d9,_,Iz mB,sL,jg,qI⟩
 have mh:∃f',mg "_law_none"=some (.ref f')/\DfA l.prog w K mg base f' Cy 1 (Jk):=⟨d9,sL,_,Iz mB,jg,qI⟩
 have Wd:Df l.prog w K mg base "_law_spoilt" B7 1 (GC):=⟨cq,_,GX oJ Dg Ia Kq,qP,nR,qv⟩
 have ec:∃f',mg "_law_spoilt"=some (.ref f')/\DfA l.prog w K mg base f' B7 1 (GC):=⟨cq,qP,_,GX oJ Dg Ia Kq,nR,qv⟩
 have Tr:Df l.prog w K mg base "_law_is_floor" BW 1 (GG):=⟨cm,_,Ej lT Ai BR Dg Ia C7 Zd,qx,ie,rq⟩
 have cY:∃f',mg "_law_is_floor"=some (.ref f')/\DfA l.prog w K mg base f' BW 1 (GG):=⟨cm,qx,_,Ej lT Ai BR Dg Ia C7 Zd,ie,rq⟩
 exact cB wV Dg Oc HD Tx VO LF Sz UD aQ Wd Tr XM
theorem walk {l:PySem.W.OpenLaw} {q:Program} {loose:List Str} {XP:(Str->Option Value)->Heap->Prop} {YP:World->Heap->Prop} {d:DefRec} {K:Params->PySem.W.Frag} (hn:l.most=some 63) (gS:d.params.defaults=[])
  (hY:∀(w:World) (h:Heap),YP w h->(K w.params).In h)
  (F:∀(w:World) (mg:Str->Option Value) (fa:Addr) (h:Heap),(K w.params).In h->h.Ns mainGlobals mg->mg d.name=some (.ref fa) →
   ∃fd:FuncData,(∀(s:Shared) (u:Value),BindsTo s fd ⟨[u],[]⟩ [("_law_script",u)])/\∀base:Heap,(K w.params).In base->base.Ns mainGlobals mg->FnOk l.prog w (K w.params) mg base CX0 16 fa fd ["_law_script"] (BD (K w.params) NM)) :
  PySem.W.WalkO q loose XP YP l.row.toRowW d [] (fun f vs=>PySem.call f vs):=
 L2.walk_of (n:=63) (k:=16) (x:="_law_script") (CX:=fun _=>CX0) (sp:=fun w=>BD (K w.params) NM) hn (by decide) gS ⟨rfl,by decide,by decide⟩ hY F
  (fun w H a ns hl _ hS=>⟨[.scr ns],g0,fun d _=>d=.bl true,eQ,RepL.cons (by rw [bI,Rep];exact ⟨a,rfl,hS⟩) RepL.nil,⟨ns,rfl,rfl⟩,fun v H' d G' _ _ r q=>by
   subst q
   rw [Rep]at r
   exact r⟩) fun _ _ _ _ _ z=>z
def hOb (w:World) (a:Nat):Obj:=((PySem.W.openEnds treeTable PySem.Challenge.rw_tilefloor_k14_spoilt_texts.row.prog w 2994).bind fun s=>s.heap.get? a).getD { cls:=.none,data:=.plain }
def hO0:Obj:=⟨(PySem.Value.type "function"),(Option.none),.func (PySem.W.fnOf "is_number" "is_number" (AI BK) (AH BK) (AB BK) .none (.none) (.none) (PySem.Value.str (PySem.Str.ofString "tilefloor.floors") 239) (Option.none) (PySem.Value.ref 57) (.none)),(#[])⟩
def hO1:Obj:=⟨(PySem.Value.type "function"),(Option.none),.func (PySem.W.fnOf "is_pair" "is_pair" (AI B2) (AH B2) (AB B2) .none (.none) (.none) (PySem.Value.str (PySem.Str.ofString "tilefloor.floors") 239) (Option.none) (PySem.Value.ref 64) (.none)),(#[])⟩
def hO2:Obj:=⟨(PySem.Value.type "function"),(Option.none),.func (PySem.W.fnOf "is_place" "is_place" (AI Bd) (AH Bd) (AB Bd) .none (.none) (.none) (PySem.Value.str (PySem.Str.ofString "tilefloor.floors") 239) (Option.none) (PySem.Value.ref 71) (.none)),(#[])⟩
def hO3:Obj:=⟨(PySem.Value.type "function"),(Option.none),.func (PySem.W.fnOf "is_square" "is_square" (AI BH) (AH BH) (AB BH) .none (.none) (.none) (PySem.Value.str (PySem.Str.ofString "tilefloor.floors") 239) (Option.none) (PySem.Value.ref 78) (.none)),(#[])⟩
def hO4:Obj:=⟨(PySem.Value.type "function"),(Option.none),.func (PySem.W.fnOf "is_rising" "is_rising" (AI Ay) (AH Ay) (AB Ay) .none (.none) (.none) (PySem.Value.str (PySem.Str.ofString "tilefloor.floors") 239) (Option.none) (PySem.Value.ref 83) (.none)),(#[])⟩
def hO5:Obj:=⟨(PySem.Value.type "function"),(Option.none),.func (PySem.W.fnOf "checked" "checked" (AI Bo) (AH Bo) (AB Bo) .none (.none) (.none) (PySem.Value.str (PySem.Str.ofString "tilefloor.floors") 239) (Option.none) (PySem.Value.ref 88) (.none)),(#[])⟩
def hO6:Obj:=⟨(PySem.Value.type "function"),(Option.none),.func (PySem.W.fnOf "covered" "covered" (AI Bk) (AH Bk) (AB Bk) .none (.none) (.none) (PySem.Value.str (PySem.Str.ofString "tilefloor.floors") 239) (Option.none) (PySem.Value.ref 95) (.none)),(#[])⟩
def hO7:Obj:=⟨(PySem.Value.type "function"),(Option.none),.func (PySem.W.fnOf "signs_of" "signs_of" (AI BM) (AH BM) (AB BM) .none (.none) (.none) (PySem.Value.str (PySem.Str.ofString "tilefloor.texts") 294) (Option.none) (PySem.Value.ref 102) (.none)),(#[])⟩
def hO8:Obj:=⟨(PySem.Value.type "function"),(Option.none),.func (PySem.W.fnOf "shown_row" "shown_row" (AI Az) (AH Az) (AB Az) .none (.none) (.none) (PySem.Value.str (PySem.Str.ofString "tilefloor.texts") 294) (Option.none) (PySem.Value.ref 107) (.none)),(#[])⟩
def hO9:Obj:=⟨(PySem.Value.type "function"),(Option.none),.func (PySem.W.fnOf "shown" "shown" (AI CL) (AH CL) (AB CL) .none (.none) (.none) (PySem.Value.str (PySem.Str.ofString "tilefloor.texts") 294) (Option.none) (PySem.Value.ref 112) (.none)),(#[])⟩
def mj:Obj:=⟨(PySem.Value.type "function"),(Option.none),.func (PySem.W.fnOf "stones_in" "stones_in" (AI BJ) (AH BJ) (AB BJ) .none (.none) (.none) (PySem.Value.str (PySem.Str.ofString "tilefloor.texts") 294) (Option.none) (PySem.Value.ref 119) (.none)),(#[])⟩
def oM:Obj:=⟨(PySem.Value.type "function"),(Option.none),.func (PySem.W.fnOf "read" "read" (AI EY) (AH EY) (AB EY) .none (.none) (.none) (PySem.Value.str (PySem.Str.ofString "tilefloor.texts") 294) (Option.none) (PySem.Value.ref 126) (.none)),(#[])⟩
def pz:Obj:=⟨(PySem.Value.type "function"),(Option.none),.func (PySem.W.fnOf "_law_cell" "_law_cell" (AI Bj) (AH Bj) (AB Bj) .none (.none) (.none) (PySem.Value.str (PySem.Str.ofString "law_tilefloor_k14_spoilt_texts") 342) (Option.none) (PySem.Value.ref 133) (.none)),(#[])⟩
def nG:Obj:=⟨(PySem.Value.type "function"),(Option.none),.func (PySem.W.fnOf "_law_mix" "_law_mix" (AI B8) (AH B8) (AB B8) .none (.none) (.none) (PySem.Value.str (PySem.Str.ofString "law_tilefloor_k14_spoilt_texts") 342) (Option.none) (PySem.Value.ref 140) (.none)),(#[])⟩
def mD:Obj:=⟨(PySem.Value.type "function"),(Option.none),.func (PySem.W.fnOf "_law_floor" "_law_floor" (AI Ao) (AH Ao) (AB Ao) .none (.none) (.none) (PySem.Value.str (PySem.Str.ofString "law_tilefloor_k14_spoilt_texts") 342) (Option.none) (PySem.Value.ref 145) (.none)),(#[])⟩
def iY:Obj:=⟨(PySem.Value.type "function"),(Option.none),.func (PySem.W.fnOf "_law_near" "_law_near" (AI BC) (AH BC) (AB BC) .none (.none) (.none) (PySem.Value.str (PySem.Str.ofString "law_tilefloor_k14_spoilt_texts") 342) (Option.none) (PySem.Value.ref 150) (.none)),(#[])⟩
def pY:Obj:=⟨(PySem.Value.type "function"),(Option.none),.func (PySem.W.fnOf "_law_every" "_law_every" (AI An) (AH An) (AB An) .none (.none) (.none) (PySem.Value.str (PySem.Str.ofString "law_tilefloor_k14_spoilt_texts") 342) (Option.none) (PySem.Value.ref 155) (.none)),(#[])⟩
def jw:Obj:=⟨(PySem.Value.type "function"),(Option.none),.func (PySem.W.fnOf "_law_all" "_law_all" (AI BV) (AH BV) (AB BV) .none (.none) (.none) (PySem.Value.str (PySem.Str.ofString "law_tilefloor_k14_spoilt_texts") 342) (Option.none) (PySem.Value.ref 160) (.none)),(#[])⟩
def j8:Obj:=⟨(PySem.Value.type "function"),(Option.none),.func (PySem.W.fnOf "_law_is_laying" "_law_is_laying" (AI AY) (AH AY) (AB AY) .none (.none) (.none) (PySem.Value.str (PySem.Str.ofString "law_tilefloor_k14_spoilt_texts") 342) (Option.none) (PySem.Value.ref 167) (.none)),(#[])⟩
def kv:Obj:=⟨(PySem.Value.type "function"),(Option.none),.func (PySem.W.fnOf "_law_shown" "_law_shown" (AI Aq) (AH Aq) (AB Aq) .none (.none) (.none) (PySem.Value.str (PySem.Str.ofString "law_tilefloor_k14_spoilt_texts") 342) (Option.none) (PySem.Value.ref 172) (.none)),(#[])⟩
def kz:Obj:=⟨(PySem.Value.type "function"),(Option.none),.func (PySem.W.fnOf "_law_refused" "_law_refused" (AI Av) (AH Av) (AB Av) .none (.none) (.none) (PySem.Value.str (PySem.Str.ofString "law_tilefloor_k14_spoilt_texts") 342) (Option.none) (PySem.Value.ref 179) (.none)),(#[])⟩
def oG:Obj:=⟨(PySem.Value.type "function"),(Option.none),.func (PySem.W.fnOf "_law_by_base" "_law_by_base" (AI Au) (AH Au) (AB Au) .none (.none) (.none) (PySem.Value.str (PySem.Str.ofString "law_tilefloor_k14_spoilt_texts") 342) (Option.none) (PySem.Value.ref 186) (.none)),(#[])⟩
def ip:Obj:=⟨(PySem.Value.type "function"),(Option.none),.func (PySem.W.fnOf "_law_none" "_law_none" (AI Be) (AH Be) (AB Be) .none (.none) (.none) (PySem.Value.str (PySem.Str.ofString "law_tilefloor_k14_spoilt_texts") 342) (Option.none) (PySem.Value.ref 193) (.none)),(#[])⟩
def jb:Obj:=⟨(PySem.Value.type "function"),(Option.none),.func (PySem.W.fnOf "_law_spoilt" "_law_spoilt" (AI A9) (AH A9) (AB A9) .none (.none) (.none) (PySem.Value.str (PySem.Str.ofString "law_tilefloor_k14_spoilt_texts") 342) (Option.none) (PySem.Value.ref 200) (.none)),(#[])⟩
def ph:Obj:=⟨(PySem.Value.type "function"),(Option.none),.func (PySem.W.fnOf "_law_is_floor" "_law_is_floor" (AI AZ) (AH AZ) (AB AZ) .none (.none) (.none) (PySem.Value.str (PySem.Str.ofString "law_tilefloor_k14_spoilt_texts") 342) (Option.none) (PySem.Value.ref 205) (.none)),(#[])⟩
def jU:Obj:=⟨(PySem.Value.type "function"),(Option.none),.func (PySem.W.fnOf "law" "law" (AI EE) (AH EE) (AB EE) .none (.none) (.none) (PySem.Value.str (PySem.Str.ofString "law_tilefloor_k14_spoilt_texts") 342) (Option.none) (PySem.Value.ref 212) (.none)),(#[])⟩
def hFn:PySem.W.Frag:=[(58,hO0),(65,hO1),(72,hO2),(79,hO3),(84,hO4),(89,hO5),(96,hO6),(103,hO7),(108,hO8),(113,hO9),(120,mj),(127,oM),(134,pz),(141,nG),(146,mD),(151,iY),(156,pY),(161,jw),(168,j8),(173,kv),(180,kz),(187,oG),(194,ip),(201,jb),(206,ph),(213,jU)]
def hOt:List Nat:=[2,3,15,22,23,24,25,28,35,36,37,40,47,48,49,52,54,55,57,59,61,62,64,66,68,69,71,73,75,76,78,80,83,85,88,90,92,93,95,97,99,100,102,104,107,109,112,114,116,117,119,121,123,124,126,128,130,131,133,135,137,138,140,142,145,147,150,152,155,157,160,162,164,165,167,169,172,174,176,177,179,181,183,184,186,188,190,191,193,195,197,198,200,202,205,207,209,210,212]
def hK (w:World):PySem.W.Frag:=hFn++hOt.map fun a=>(a,hOb w a)
def hAs:List Nat:=[58,65,72,79,84,89,96,103,108,113,120,127,134,141,146,151,156,161,168,173,180,187,194,201,206,213,2,3,15,22,23,24,25,28,35,36,37,40,47,48,49,52,54,55,57,59,61,62,64,66,68,69,71,73,75,76,78,80,83,85,88,90,92,93,95,97,99,100,102,104,107,109,112,114,116,117,119,121,123,124,126,128,130,131,133,135,137,138,140,142,145,147,150,152,155,157,160,162,164,165,167,169,172,174,176,177,179,181,183,184,186,188,190,191,193,195,197,198,200,202,205,207,209,210,212]
def hQ:Program:=PySem.W.view PySem.Challenge.pw_tilefloor_k14_spoilt_texts [1,2,3,5,6,7,8,9,10,11,12,13,15,16,17,18,19,20,22,23,24,25,26,27,28,29,30,31,32,33,34,35]
theorem BZ {w:World} {a:Addr} {o:Obj} (h:hFn.lookup a=some o):(hK w).lookup a=some o:=by
 show List.lookup a (hFn++_)=_
 rw [List.lookup_append,h];rfl
theorem hAs_ok (w:World):hAs=(hK w).map (·.1):=by kernel_rfl
def hXt (s:Shared):Bool:=PySem.W.xlAt hQ [] s&&PySem.W.recOk (PySem.W.RowW.records (PySem.W.OpenRow.toRowW (PySem.W.OpenLaw.row PySem.Challenge.rw_tilefloor_k14_spoilt_texts))) s
def hP (x:Str) (v:Option Value):Str×Option Value:=(x,v)
def hC (v:Value) (x:Str):Value×Str:=(v,x)
def hNs:List (Str×Option Value):=[hP "is_number" (some (.ref 58)),hP "is_pair" (some (.ref 65)),hP "is_place" (some (.ref 72)),hP "is_square" (some (.ref 79)),hP "is_rising" (some (.ref 84)),hP "checked" (some (.ref 89)),hP "covered" (some (.ref 96)),hP "signs_of" (some (.ref 103)),hP "shown_row" (some (.ref 108)),hP "shown" (some (.ref 113)),hP "stones_in" (some (.ref 120)),hP "read" (some (.ref 127)),hP "_law_cell" (some (.ref 134)),hP "_law_mix" (some (.ref 141)),hP "_law_floor" (some (.ref 146)),hP "_law_near" (some (.ref 151)),hP "_law_every" (some (.ref 156)),hP "_law_all" (some (.ref 161)),hP "_law_is_laying" (some (.ref 168)),hP "_law_shown" (some (.ref 173)),hP "_law_refused" (some (.ref 180)),hP "_law_by_base" (some (.ref 187)),hP "_law_none" (some (.ref 194)),hP "_law_spoilt" (some (.ref 201)),hP "_law_is_floor" (some (.ref 206)),hP "law" (some (.ref 213)),hP "len" none,hP "range" none,hP "min" none,hP "max" none,hP "tuple" none,hP "sorted" none,hP "isinstance" none,hP "int" none,hP "bool" none,hP "all" none,hP "zip" none,hP "str" none,hP "enumerate" none,hP "list" none,hP "ValueError" none,hP "reversed" none,hP "set" none,hP "LAST_LINE" (some (.int 7 (241))),hP "MOST_SQUARES" (some (.int 24 (243))),hP "MOST_SIGNS" (some (.int 72 (296))),hP "BadFloor" (some (.ref 37)),hP "BadText" (some (.ref 49)),hP "FloorError" (some (.ref 24))]
def hCs:List (Value×Str):=[hC (PySem.Value.ref 57) "is_number",hC (PySem.Value.ref 64) "is_pair",hC (PySem.Value.ref 71) "is_place",hC (PySem.Value.ref 78) "is_square",hC (PySem.Value.ref 83) "is_rising",hC (PySem.Value.ref 88) "checked",hC (PySem.Value.ref 95) "covered",hC (PySem.Value.ref 102) "signs_of",hC (PySem.Value.ref 107) "shown_row",hC (PySem.Value.ref 112) "shown",hC (PySem.Value.ref 119) "stones_in",hC (PySem.Value.ref 126) "read",hC (PySem.Value.ref 133) "_law_cell",hC (PySem.Value.ref 140) "_law_mix",hC (PySem.Value.ref 145) "_law_floor",hC (PySem.Value.ref 150) "_law_near",hC (PySem.Value.ref 155) "_law_every",hC (PySem.Value.ref 160) "_law_all",hC (PySem.Value.ref 167) "_law_is_laying",hC (PySem.Value.ref 172) "_law_shown",hC (PySem.Value.ref 179) "_law_refused",hC (PySem.Value.ref 186) "_law_by_base",hC (PySem.Value.ref 193) "_law_none",hC (PySem.Value.ref 200) "_law_spoilt",hC (PySem.Value.ref 205) "_law_is_floor",hC (PySem.Value.ref 212) "law"]
def hKs:List Nat:=[58,65,72,79,84,89,96,103,108,113,120,127,134,141,146,151,156,161,168,173,180,187,194,201,206,213]
def hXs:List Nat:=[37,49,24]
def hUs:List (Nat×Nat):=[(37,37),(49,49),(49,24)]
def hB (K:PySem.W.Frag):Bool:=hNs.all (fun p=>PySem.W.nsIn K mainGlobals p.1==some p.2)&&hCs.all (fun p=>PySem.W.codeIn K p.1 p.2)&&hKs.all (fun a=>PySem.W.keepIn K (.ref a))&&hXs.all (fun a=>PySem.W.excIn K a [.type "ValueError",.type "Exception",.type "BaseException",.type "object"] "ValueError.__new__")&&hUs.all (fun p=>Bi K p.1 p.2)
theorem hLeft:PySem.W.LeftO PySem.Challenge.rw_tilefloor_k14_spoilt_texts.row.prog hQ [] hXt (fun s=>hAs.map s.heap.get?) (fun w=>(hK w).map fun p=>some p.2) 2994:=fun w=>by kernel_rfl
theorem hB_ok (w:World):hB (hK w)=true:=by kernel_rfl
theorem AR {K:PySem.W.Frag} (h:hB K=true) (i:Nat) {x:Str} {v:Option Value} (hi:hNs[i]?=some (x,v)):PySem.W.nsIn K mainGlobals x=some v:=by
 unfold hB at h
 simp only [Bool.and_eq_true]at h
 exact beq_iff_eq.mp (List.all_eq_true.mp h.1.1.1.1 _ (List.mem_of_getElem? hi))
theorem A3 {K:PySem.W.Frag} (h:hB K=true) (i:Nat) {x:Str} {v:Value} (hi:hCs[i]?=some (v,x)):PySem.W.codeIn K v x=true:=by
 unfold hB at h
 simp only [Bool.and_eq_true]at h
 exact List.all_eq_true.mp h.1.1.1.2 _ (List.mem_of_getElem? hi)
theorem A0 {K:PySem.W.Frag} (h:hB K=true) (i:Nat) {a:Addr} (hi:hKs[i]?=some a):PySem.W.keepIn K (.ref a)=true:=by
 unfold hB at h
 simp only [Bool.and_eq_true]at h
 exact List.all_eq_true.mp h.1.1.2 _ (List.mem_of_getElem? hi)
theorem QF {K:PySem.W.Frag} (h:hB K=true) (i:Nat) {a:Addr} (hi:hXs[i]?=some a):PySem.W.excIn K a [.type "ValueError",.type "Exception",.type "BaseException",.type "object"] "ValueError.__new__"=true:=by
 unfold hB at h
 simp only [Bool.and_eq_true]at h
 exact List.all_eq_true.mp h.1.2 _ (List.mem_of_getElem? hi)
theorem Qg {K:PySem.W.Frag} (h:hB K=true) (i:Nat) {a b:Addr} (hi:hUs[i]?=some (a,b)):Bi K a b=true:=by
 unfold hB at h
 simp only [Bool.and_eq_true]at h
 exact List.all_eq_true.mp h.2 _ (List.mem_of_getElem? hi)
end TF
open PySem PySem.W PyProof.Rows TF
set_option maxRecDepth 100000 in
set_option maxHeartbeats 0 in
theorem PySem.Challenge.cw_tilefloor_k14_spoilt_texts_holds : PySem.Challenge.rw_tilefloor_k14_spoilt_texts.Holds := by
 refine holds_law (by kernel_rfl) fun ja=>?_
 refine PySem.W.holds_open (q:=TF.hQ) (loose:=[]) (Xt:=TF.hXt) (XP:=XL TF.hQ []) (Yf:=fun s=>TF.hAs.map s.heap.get?) (Ya:=fun w=>(TF.hK w).map fun p=>some p.2) (YP:=fun w h=>(TF.hK w).In h) (N:=2994) TF.hLeft (fun w s x=>Frag.in_of (TF.hAs_ok w) x) (fun w h h' x k=>Frag.In.keeps x k) (fun s e=>xl_of s (Bool.and_eq_true_iff.mp e).1) XL.keeps (by rfl) (by rfl) (by rfl) (fun s e=>recFacts_of (Bool.and_eq_true_iff.mp e).2) (by rfl) ja (by decide +kernel) ⟨rfl,rfl,rfl,rfl,rfl,by decide +kernel⟩ ?hw ?hc
 case hw=>w_witness2
 case hc=>
  intro w₀ s₀ s₁ mg mb G Y
  refine TF.walk (l:=PySem.Challenge.rw_tilefloor_k14_spoilt_texts) (K:=fun _=>TF.hK w₀) (YP:=fun _ h=>(TF.hK w₀).In h) rfl rfl (fun w h Y=>Y) ?F w₀ s₀ s₁ mg mb G Y
  clear Y G mg mb
  intro w mg fa h KX G Q5
  have hb:=TF.hB_ok w₀
  exact TF.all_mk KX G Q5 (AR hb 0 rfl) (BZ rfl) (A3 hb 0 rfl) (A0 hb 0 rfl) (AR hb 1 rfl) (BZ rfl) (A3 hb 1 rfl) (A0 hb 1 rfl) (AR hb 2 rfl) (BZ rfl) (A3 hb 2 rfl) (A0 hb 2 rfl) (AR hb 3 rfl) (BZ rfl) (A3 hb 3 rfl) (A0 hb 3 rfl) (AR hb 4 rfl) (BZ rfl) (A3 hb 4 rfl) (A0 hb 4 rfl) (AR hb 5 rfl) (BZ rfl) (A3 hb 5 rfl) (A0 hb 5 rfl) (AR hb 6 rfl) (BZ rfl) (A3 hb 6 rfl) (A0 hb 6 rfl) (AR hb 7 rfl) (BZ rfl) (A3 hb 7 rfl) (A0 hb 7 rfl) (AR hb 8 rfl) (BZ rfl) (A3 hb 8 rfl) (A0 hb 8 rfl) (AR hb 9 rfl) (BZ rfl) (A3 hb 9 rfl) (A0 hb 9 rfl) (AR hb 10 rfl) (BZ rfl) (A3 hb 10 rfl) (A0 hb 10 rfl) (AR hb 11 rfl) (BZ rfl) (A3 hb 11 rfl) (A0 hb 11 rfl) (AR hb 12 rfl) (BZ rfl) (A3 hb 12 rfl) (A0 hb 12 rfl) (AR hb 13 rfl) (BZ rfl) (A3 hb 13 rfl) (A0 hb 13 rfl) (AR hb 14 rfl) (BZ rfl) (A3 hb 14 rfl) (A0 hb 14 rfl) (AR hb 15 rfl) (BZ rfl) (A3 hb 15 rfl) (A0 hb 15 rfl) (AR hb 16 rfl) (BZ rfl) (A3 hb 16 rfl) (A0 hb 16 rfl) (AR hb 17 rfl) (BZ rfl) (A3 hb 17 rfl) (A0 hb 17 rfl) (AR hb 18 rfl) (BZ rfl) (A3 hb 18 rfl) (A0 hb 18 rfl) (AR hb 19 rfl) (BZ rfl) (A3 hb 19 rfl) (A0 hb 19 rfl) (AR hb 20 rfl) (BZ rfl) (A3 hb 20 rfl) (A0 hb 20 rfl) (AR hb 21 rfl) (BZ rfl) (A3 hb 21 rfl) (A0 hb 21 rfl) (AR hb 22 rfl) (BZ rfl) (A3 hb 22 rfl) (A0 hb 22 rfl) (AR hb 23 rfl) (BZ rfl) (A3 hb 23 rfl) (A0 hb 23 rfl) (AR hb 24 rfl) (BZ rfl) (A3 hb 24 rfl) (A0 hb 24 rfl) (AR hb 25 rfl) (BZ rfl) (A3 hb 25 rfl) (A0 hb 25 rfl) (AR hb 26 rfl) (AR hb 27 rfl) (AR hb 28 rfl) (AR hb 29 rfl) (AR hb 30 rfl) (AR hb 31 rfl) (AR hb 32 rfl) (AR hb 33 rfl) (AR hb 34 rfl) (AR hb 35 rfl) (AR hb 36 rfl) (AR hb 37 rfl) (AR hb 38 rfl) (AR hb 39 rfl) (AR hb 40 rfl) (AR hb 41 rfl) (AR hb 42 rfl) (AR hb 43 rfl) (AR hb 44 rfl) (AR hb 45 rfl) (AR hb 46 rfl) (QF hb 0 rfl) (AR hb 47 rfl) (QF hb 1 rfl) (AR hb 48 rfl) (QF hb 2 rfl) (Qg hb 0 rfl) (Qg hb 1 rfl) (Qg hb 2 rfl)
