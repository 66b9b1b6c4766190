import PyProof.Rows.All
import PyProof.StrReplace2
import Wide.All
import OpenK.AllK
import Wide.FinOn
import Lean
import PyProof.EqAt
import PyProof.EqKinds
import PyProof.TupleCall
import PyProof.ListMulRoad
import PyProof.Lay0
import PyProof.Rows.EqDataRows
import PyProof.ReprRoads
import PyProof.Rows.MinMaxN
import PyProof.ReprLen
import PyProof.FitsInt
import PyProof.MinMaxWalk
import KE.KRevSl
import KE.KRevIter
import PyProof.ListRange
import PyProof.Sched
import PyProof.Rows.SortShellK
import PyProof.Rows.SortRunK
import PyProof.Rows.SortRuns
import PyProof.TupleOfSeq
import PyProof.RulesAs
import OpenK.KDescr
import OpenK.KOwn
import KE.KIsNot
import KE.KIsAll
import PyProof.Rows.SetFrom
import PyProof.WalksMore
import PyProof.CollectWalk
import KE.KLam
import KE.KMinKey
import KE.KSortKey
import KE.KDictList
import KE.KDictOf
import PyProof.Rows.Range3
import PyProof.FactsAll.range
import PyProof.Rows.StrLen
import PyProof.Rows.StrCase
import PyProof.StrBlock2
import PyProof.Rows.StrRules
import PyProof.Rows.RegReprOcc
import PyProof.AttrMissSeq
import PyProof.DictWalks
import KE.KEqDict
import PyProof.ExcInit
import PyProof.ExcClass3
import PyProof.InstStoreFacts
import PySem.Challenge.RW_knockpurse_k14_stories_put_together
set_option Elab.async false
set_option linter.all false
set_option maxRecDepth 100000
namespace L2
open PySem PySem.Spec PyProof.Rows
abbrev Key:=Sum Int Str
def zo2:Key->Value->Bool
 |.inl k,v=>Value.isInt k v
 |.inr x,v=>Value.isStrOf x v
def zth(w:World):Key->Int
 |.inl k=>hashInt k
 |.inr x=>hashStr w x
theorem y6:∀{k:Key}{v:Value},zo2 k v=true->(∃i t,k=Sum.inl i/\v=Value.int i t)\/(∃x t,k=Sum.inr x/\v=Value.str x t)
 |.inl i,v,h=>by
  obtain⟨t,e⟩:=Value.isInt_shape (k:=i) (v:=v) h;exact .inl ⟨i,t,rfl,e⟩
 |.inr x,v,h=>by
  obtain⟨t,e⟩:=Value.isStrOf_shape (x:=x) (v:=v) h;exact .inr ⟨x,t,rfl,e⟩
theorem zpu(a b:Int):decide ((Sum.inl a:Key)=Sum.inl b)=(a == b):=by
 by_cases e:a=b
 ·subst e;simp
 ·have h:¬ (Sum.inl a:Key)=Sum.inl b:=λq=>e (Sum.inl.inj q);rw[decide_eq_false h];exact(beq_eq_false_iff_ne.mpr e).symm
theorem zpv(a b:Str):decide ((Sum.inr a:Key)=Sum.inr b)=decide (a=b):=by
 by_cases e:a=b
 ·subst e;simp
 ·have h:¬ (Sum.inr a:Key)=Sum.inr b:=λq=>e (Sum.inr.inj q);rw[decide_eq_false h,decide_eq_false e]
theorem zpw(a:Int)(b:Str):decide ((Sum.inl a:Key)=Sum.inr b)=false:=decide_eq_false (λq=>nomatch q)
theorem zpx(a:Str)(b:Int):decide ((Sum.inr a:Key)=Sum.inl b)=false:=decide_eq_false (λq=>nomatch q)
def zd0(prog:Program)(w:World):PySem.KeyKind prog w Key where
 is:=zo2
 hash:=zth w
 inj:=λv a b ha hb=>by
  rcases y6 ha with⟨i,t,rfl,rfl⟩ |⟨x,t,rfl,rfl⟩
  ·rcases y6 hb with⟨j,u,rfl,e⟩ |⟨y,u,rfl,e⟩
   ·injection e with e1 _;rw[e1]
   ·exact nomatch e
  ·rcases y6 hb with⟨j,u,rfl,e⟩ |⟨y,u,rfl,e⟩
   ·exact nomatch e
   ·injection e with e1 _;rw[e1]
 byValue:=λk v h=>by
  rcases y6 h with⟨i,t,rfl,rfl⟩ |⟨x,t,rfl,rfl⟩ <;> rfl
 pyHash:=λhv h=>by
  rcases y6 hv with⟨i,t,rfl,rfl⟩ |⟨x,t,rfl,rfl⟩
  ·exact wpAny_pyHash_int h
  ·exact wpAny_pyHash_str h
 eqBool:=λhu hv h=>by
  rcases y6 hu with⟨i,t,rfl,rfl⟩ |⟨x,t,rfl,rfl⟩
  ·rcases y6 hv with⟨j,u,rfl,rfl⟩ |⟨y,u,rfl,rfl⟩
   ·rw[zpu]at h;exact wpAny_eqBool_int h
   ·rw[zpw]at h;exact SeqAt.EqAt.int_str i t y u _ _ _ _ h
  ·rcases y6 hv with⟨j,u,rfl,rfl⟩ |⟨y,u,rfl,rfl⟩
   ·rw[zpx]at h;exact SeqAt.EqAt.str_int x t j u _ _ _ _ h
   ·rw[zpv]at h;exact wpAny_eqBool_str h
 «strs»:=λk x t v h=>by
  rcases y6 h with⟨i,u,rfl,e⟩ |⟨y,u,rfl,e⟩
  ·exact nomatch e
  ·injection e with e1 _
   subst e1
   cases v <;> rfl
inductive V where
 |non|bl (b:Bool)|int (i:Int)|str (x:Str)|byt (b:Array UInt8)|flt (b:UInt64)|ref (a:Addr)|ty (n:String)
 deriving DecidableEq
def RelV:V->Value->Prop
 |.non,u=>u=Value.none
 |.bl b,u=>u=Value.bool b
 |.int i,u=>∃t,u=Value.int i t
 |.str x,u=>∃t,u=Value.str x t
 |.byt b,u=>∃t,u=Value.bytes b t
 |.flt b,u=>∃t,u=Value.float b t
 |.ref a,u=>u=Value.ref a
 |.ty n,u=>u=Value.type n
abbrev Vals:List V->List Value->Prop:=Paired RelV
theorem Vals.length{xs:List V}{us:List Value}(r:Vals xs us):xs.length=us.length:=Paired.length r
theorem Vals.get:∀{xs:List V}{us:List Value}{i:Nat}{x:V},Vals xs us->xs[i]?=some x->∃u,us[i]?=some u/\RelV x u
 |_,_,_,_,.nil,e=>by simp at e
 |_,_,0,_,.cons r _,e=>by simp at e;subst e;exact⟨_,rfl,r⟩
 |_,_,i+1,x,.cons _ t,e=>by
  obtain⟨u,h1,h2⟩:=Vals.get (i:=i) (x:=x) t (by simpa using e);exact⟨u,by simpa using h1,h2⟩
theorem Vals.set{x:V}{u:Value}(r:RelV x u):∀{xs:List V}{us:List Value} (i:Nat),Vals xs us->Vals (xs.set i x) (us.set i u)
 |_,_,_,.nil=>.nil
 |_,_,0,.cons _ t=>.cons r t
 |_,_,i+1,.cons q t=>.cons q (Vals.set r i t)
theorem Vals.append:∀{xs ys:List V}{us ws:List Value},Vals xs us->Vals ys ws->Vals (xs++ys) (us++ws)
 |_,_,_,_,.nil,s=>s
 |_,_,_,_,.cons r t,s=>.cons r (Vals.append t s)
theorem Vals.take:∀{xs:List V}{us:List Value} (n:Nat),Vals xs us->Vals (xs.take n) (us.take n)
 |_,_,0,_=>.nil
 |_,_,_+1,.nil=>.nil
 |_,_,n+1,.cons r t=>.cons r (Vals.take n t)
theorem Vals.drop:∀{xs:List V}{us:List Value} (n:Nat),Vals xs us->Vals (xs.drop n) (us.drop n)
 |_,_,0,r=>r
 |_,_,_+1,.nil=>.nil
 |_,_,n+1,.cons _ t=>Vals.drop n t
def zje:Option V->Option Value->Prop
 |some v,some u=>RelV v u
 |none,none=>True
 |_,_=>False
def KV{κ:Type}:List (κ×V)->List (κ×Value)->Prop:=Paired λ(p:κ×V) (q:κ×Value)=>p.1=q.1/\RelV p.2 q.2
def kV:Key->V
 |.inl i=>.int i
 |.inr x=>.str x
inductive HO where
  |lst (xs:List V)
  |tup (xs:List V)
  |dK (kvs:List (Key×V))|dT (kvs:List (List Key×V))
  |set (S:Int->Bool) (n:Nat)
  |ins (C dx:Addr) (fs:List (Str×V))
  |own (x:Addr)
  |xd (fs:List (Str×V))
  |met (f x:Addr)
  |rng (lo hi:Int)
  |frz (o:Obj) (u:HO)
  |tbl (ps:Array Value)
  |ext (φ:Heap->Prop)
abbrev Hp:=Addr->Option HO
def upd(H:Hp)(a:Addr)(o:HO):Hp:=λb=>if b=a then some o else H b
theorem zm{H:Hp}{a:Addr}{o:HO}:upd H a o a=some o:=by unfold upd;rw[if_pos rfl]
theorem zh{H:Hp}{a b:Addr}{o:HO}(h:b≠a):upd H a o b=H b:=by unfold upd;rw[if_neg h]
theorem zh0{H:Hp}{a b:Addr}{o u:HO}(h:H a=some o)(h':H b=some u)(d:o≠u):a≠b:=by
 intro e;subst e;rw[h]at h';exact d (Option.some.inj h')
theorem yd{H:Hp}{a b:Addr}{o:HO}(h:H a=some o)(h':H b=none):a≠b:=by
 intro e;subst e;rw[h]at h';cases h'
def TupD(h:Heap)(a:Addr)(items:Array Value):Prop:=∃o,h.get? a=some o/\o.cls=.type "tuple" /\(∃n,o.data=.seq items n)/\o.dict=none
theorem TupD.isTup{h:Heap}{a:Addr}{items:Array Value}(x:TupD h a items):IsTup h a items:=let ⟨o,e,c,d,_⟩:=x;⟨o,e,c,d⟩
theorem TupD.lt{h:Heap}{a:Addr}{items:Array Value}(x:TupD h a items):a<h.objs.size:=x.isTup.lt
theorem TupD.new(h:Heap)(items:Array Value):TupD (h.push { cls:=.type "tuple",data:=.seq items }) h.objs.size items:=⟨_,Heap.get?_push_size _ rfl,rfl,⟨_,rfl⟩,rfl⟩
def zr5(oc:Obj)(q:Str):Prop:=∃vs t,oc.data=.fields vs/\vs[1]?=some (.str q t)
def zr6(H:Hp)(h:Heap)(a:Addr)(lab:Array Value):Prop:=∃(ps:Array Value) (q:Str) (t:Tok),lab = #[.str q t]/\h.get? a=some { cls:=.none,data:=.fields ps }/\TriplesOk ps.toList /\
 ∀pos cv,codeAmong pos ps.toList=some cv->∃c' oc u,cv=.ref c'/\H c'=some (.frz oc u)/\zr5 oc q
section
variable (P:Program)(w:World)
def ObjOk(H:Hp)(h:Heap)(a:Addr):HO->Prop
 |.lst xs=>xs.length<=sizeLine/\∃(its:List Value) (n:Nat),Vals xs its/\h.get? a=some { cls:=.type "list",data:=.seq its.toArray n }
 |.tup xs=>xs.length<=sizeLine/\∃its:List Value,Vals xs its/\TupD h a its.toArray
 |.dK kvs=>kvs.length<=sizeLine/\(a == sysModules)=false/\∃vs,KV kvs vs/\h.DictOf (zd0 P w) a vs
 |.dT kvs=>kvs.length<=sizeLine/\(a == sysModules)=false/\∃xs:List (List Key×Addr×Value),
   Paired (λ(p:List Key×V) (q:List Key×Addr×Value)=>p.1=q.1/\H q.2.1=some (.tup (p.1.map kV))/\RelV p.2 q.2.2) kvs xs /\
   ∃o es ep,h.get? a=some o/\o.ExactDict/\o.data=.dict es ep/\es.toList=xs.map (entryOfKey (tupleKind (zd0 P w)))/\(xs.map (·.1)).Nodup
 |.set S n=>h.SetOf (intKind P w) a S n
 |.ins C dx fs=>H dx=some (.own a)/\fs.length<=1000/\dx≠a/\h.get? a=some (PySem.W.instObj C dx) /\
   ∃mA,h.Ns1 dx mA/\(∀f,zje (fs.lookup f) (mA f))/\PySem.Within mA (fs.map (·.1))
 |.own _=>∃o,h.get? a=some o
 |.xd fs=>∃mA,h.Ns1 a mA/\∀f,zje (fs.lookup f) (mA f)
 |.rng lo hi=>∃t u v,h.get? a=some { cls:=.type "range",data:=.fields #[.int lo t,.int hi u,.int 1 v] }
 |.frz o u=>h.get? a=some o/\ObjOk H h a u
 |.tbl ps=>zr6 H h a ps
 |.met f x=>h.get? a=some (PySem.W.methodObj (.ref f) (.ref x))
 |.ext φ=>φ h/\(∃o,h.get? a=some o)/\∀h1 h2:Heap,φ h1->(∀o,h1.get? a=some o->h2.get? a=some o)->φ h2
def HOk(H:Hp)(h:Heap):Prop:=∀a o,H a=some o->ObjOk P w H h a o
end
section
variable {P:Program}{w:World}{H H':Hp}{h h':Heap}{a:Addr}{o:HO}
theorem ObjOk.lt(x:ObjOk P w H h a o):a<h.objs.size:=by
 cases o with
 |lst xs=>obtain⟨_,_,_,_,e⟩:=x;exact Heap.lt_size e
 |tup xs=>obtain⟨_,_,_,p⟩:=x;exact p.lt
 |dK kvs=>obtain⟨_,_,_,_,o,_,_,e,_⟩:=x;exact Heap.lt_size e
 |dT kvs=>obtain⟨_,_,_,_,o,_,_,e,_⟩:=x;exact Heap.lt_size e
 |set S n=>obtain⟨o,_,_,_,e,_⟩:=x;exact Heap.lt_size e
 |ins C dx fs=>obtain⟨_,_,_,e,_⟩:=x;exact Heap.lt_size e
 |own y=>obtain⟨_,e⟩:=x;exact Heap.lt_size e
 |xd fs=>obtain⟨_,⟨_,_,_,e,_⟩,_⟩:=x;exact Heap.lt_size e
 |rng lo hi=>obtain⟨_,_,_,e⟩:=x;exact Heap.lt_size e
 |frz ob u=>obtain⟨e,_⟩:=x;exact Heap.lt_size e
 |tbl ps=>obtain⟨_,_,_,_,e,_⟩:=x;exact Heap.lt_size e
 |met f y=>exact Heap.lt_size (show h.get? a=some _ from x)
 |ext φ=>obtain⟨_,⟨_,e⟩,_⟩:=x;exact Heap.lt_size e
theorem Paired.mapP{α β:Type}{F G:α->β->Prop}:∀{l₁:List α}{l₂:List β},Paired F l₁ l₂->(∀a b,F a b->G a b)->Paired G l₁ l₂
 |_,_,.nil,_=>.nil
 |_,_,.cons r t,f=>.cons (f _ _ r) (Paired.mapP t f)
theorem ObjOk.stay(x:ObjOk P w H h a o)(k:∀b u,(b=a\/H b=some (.own a))->h.get? b=some u->h'.get? b=some u)
  (ho:∀b,H b=some (.own a)->H' b=some (.own a)) (ht:∀b xs,H b=some (.tup xs)->H' b=some (.tup xs)) (hf:∀b o u,H b=some (.frz o u)->H' b=some (.frz o u):=by exact λ_ _ _ q=>q):ObjOk P w H' h' a o:=by
 induction o with
 |lst xs=>obtain⟨z,its,n,r,e⟩:=x;exact⟨z,its,n,r,k _ _ (.inl rfl) e⟩
 |tup xs=>obtain⟨z,its,r,ob,e,c⟩:=x;exact⟨z,its,r,ob,k _ _ (.inl rfl) e,c⟩
 |dK kvs=>obtain⟨z,y,vs,r,ob,es,ep,e,c⟩:=x;exact⟨z,y,vs,r,ob,es,ep,k _ _ (.inl rfl) e,c⟩
 |dT kvs=>
  obtain⟨z,y,xs,r,ob,es,ep,e,c⟩:=x;exact⟨z,y,xs,Paired.mapP r λp q z=>⟨z.1,ht _ _ z.2.1,z.2.2⟩,ob,es,ep,k _ _ (.inl rfl) e,c⟩
 |set S n=>obtain⟨ob,es,ep,t,e,c⟩:=x;exact⟨ob,es,ep,t,k _ _ (.inl rfl) e,c⟩
 |ins C dx fs=>
  obtain⟨d,z,ne,e,mA,⟨od,es,ep,e2,c⟩,r⟩:=x;exact⟨ho _ d,z,ne,k _ _ (.inl rfl) e,mA,⟨od,es,ep,k _ _ (.inr d) e2,c⟩,r⟩
 |own y=>obtain⟨ob,e⟩:=x;exact⟨ob,k _ _ (.inl rfl) e⟩
 |xd fs=>obtain⟨mA,⟨od,es,ep,e,c⟩,r⟩:=x;exact⟨mA,⟨od,es,ep,k _ _ (.inl rfl) e,c⟩,r⟩
 |rng lo hi=>obtain⟨t,u,v,e⟩:=x;exact⟨t,u,v,k _ _ (.inl rfl) e⟩
 |frz ob u ih=>obtain⟨e,q⟩:=x;exact⟨k _ _ (.inl rfl) e,ih q⟩
 |tbl ps=>
  obtain⟨rs,q,t,z,e,tr,r⟩:=x;exact⟨rs,q,t,z,k a _ (.inl rfl) e,tr,λpos cv y=>let ⟨c',oc,u,r1,r2,r3⟩:=r pos cv y;⟨c',oc,u,r1,hf _ _ _ r2,r3⟩⟩
 |met f y=>
  have e:h.get? a=some (PySem.W.methodObj (.ref f) (.ref y)):=x;show h'.get? a=some (PySem.W.methodObj (.ref f) (.ref y));exact k a _ (.inl rfl) e
 |ext φ=>obtain⟨p,⟨o,e⟩,st⟩:=x;exact⟨st _ _ p λo q=>k _ _ (.inl rfl) q,⟨o,k _ _ (.inl rfl) e⟩,st⟩
theorem HOk.lt(x:HOk P w H h)(e:H a=some o):a<h.objs.size:=(x a o e).lt
theorem HOk.fresh(x:HOk P w H h)(e:h.objs.size<=a):H a=none:=by
 cases q:H a with
 |none=>rfl
 |some u=>exact absurd (Nat.lt_of_lt_of_le (x.lt q) e) (Nat.lt_irrefl _)
theorem HOk.kept(x:HOk P w H h)(k:∀b u,h.get? b=some u->h'.get? b=some u):HOk P w H h':=λa o e=>
 (x a o e).stay (λb u _ q=>k b u q) (λ_ q=>q) λ_ _ q=>q
theorem HOk.laid(x:HOk P w H h)(k:∀b u,h.get? b=some u->h'.get? b=some u)(hp:h.objs.size<=a)(new:ObjOk P w (upd H a o) h' a o):HOk P w (upd H a o) h':=λb u e=>by
 have hn:=x.fresh hp
 by_cases hb:b=a
 ·subst hb;rw[zm]at e;cases e;exact new
 ·rw[zh hb]at e;exact(x b u e).stay (λc v _ q=>k c v q) (λc q=>by rw[zh (yd q hn)];exact q) (λc xs q=>by rw[zh (yd q hn)];exact q) λc _ _ q=>by rw[zh (yd q hn)];exact q
end
def Rd(H:Hp)(a:Addr)(u:HO):Prop:=H a=some u\/∃o,H a=some (.frz o u)
theorem Rd.of{H:Hp}{a:Addr}{u:HO}(h:H a=some u):Rd H a u:=.inl h
theorem Rd.ok{P:Program}{w:World}{H:Hp}{h:Heap}{a:Addr}{u:HO}(r:Rd H a u)(x:HOk P w H h):ObjOk P w H h a u:=by
 rcases r with r |⟨o,r⟩
 ·exact x a u r
 ·obtain⟨_,q⟩:=x a _ r;exact q
def Mut:Option HO->Prop
 |some (.lst _)=>True
 |some (.dK _)=>True
 |some (.dT _)=>True
 |some (.set _ _)=>True
 |some (.ins _ _ _)=>True
 |some (.ext _)=>True
 |_=>False
section
variable {P:Program}{w:World}{H:Hp}{h h':Heap}{x e:Addr}{o':HO}
theorem HOk.write(ok:HOk P w H h)(mu:Mut (H x))(he:e=x\/H e=some (.own x))(k:∀b u,b≠e->h.get? b=some u->h'.get? b=some u)(heo:∃u,h'.get? e=some u)
  (new:ObjOk P w (upd H x o') h' x o'):HOk P w (upd H x o') h':=λb u q=>by
 have nown:∀c y,H c=some (.own y)->c≠x:=λc y r z=>by subst z;rw[r]at mu;exact mu
 have ntup:∀c xs,H c=some (.tup xs)->c≠x:=λc xs r z=>by subst z;rw[r]at mu;exact mu
 have nfrz:∀c o u,H c=some (.frz o u)->c≠x:=λc o u r z=>by subst z;rw[r]at mu;exact mu
 by_cases hb:b=x
 ·subst hb;rw[zm]at q;cases q;exact new
 ·rw[zh hb]at q
  by_cases hbe:b=e
  ·have q':H b=some (.own x):=by
    rcases he with z|z
    ·exact absurd (hbe.trans z) hb
    ·rw[hbe];exact z
   rw[q]at q';cases q';obtain⟨v,hv⟩:=heo;exact⟨v,by rw[hbe];exact hv⟩
  ·refine(ok b u q).stay (λc v hc r=>k c v ?_ r) (λc r=>by rw[zh (nown c b r)];exact r) (λc xs r=>by rw[zh (ntup c xs r)];exact r) (λc o u r=>by rw[zh (nfrz c o u r)];exact r);rcases hc with rfl|hc
   ·exact hbe
   ·rintro rfl;rcases he with z|z
    ·exact nown c b hc z
    ·rw[hc]at z;cases z;exact hb rfl
end
structure Un(fs ex:List Addr)(H H':Hp)(h h':Heap):Prop where
 keep:∀b o,h.get? b=some o->H b=none->b∉fs->b∉ex->h'.get? b=some o
 slot:∀b o,h.get? b=some o->H b=none->b∈fs->b∉ex->∃sl,h'.get? b=some { o with slots:=sl }
 free:∀b o,h.get? b=some o->H b=none->b∉ex->H' b=none
 there:∀b o,h.get? b=some o->b∉ex->∃o',h'.get? b=some o'
 tups:∀b xs,H b=some (.tup xs)->H' b=some (.tup xs)
 frzs:∀b o u,H b=some (.frz o u)->H' b=some (.frz o u)
 tbls:∀b ps,H b=some (.tbl ps)->∃more,H' b=some (.tbl (ps++more))
section
variable {fs fs' ex ex':List Addr}{H H1 H2:Hp}{h h1 h2 h':Heap}{a x e:Addr}{o:HO}
theorem Un.any(u:Un fs ex H H1 h h1){b:Addr}{ob:Obj}(q:h.get? b=some ob)(n:H b=none)(hx:b∉ex):∃sl,h1.get? b=some { ob with slots:=sl }:=by
 by_cases hb:b∈fs
 ·exact u.slot b ob q n hb hx
 ·exact⟨ob.slots,u.keep b ob q n hb hx⟩
theorem Un.trans(a:Un fs ex H H1 h h1)(b:Un fs ex H1 H2 h1 h2):Un fs ex H H2 h h2 where
 keep:=λc ob q n hc hx=>b.keep c ob (a.keep c ob q n hc hx) (a.free c ob q n hx) hc hx
 slot:=λc ob q n hc hx=>by
  obtain⟨sl,e1⟩:=a.slot c ob q n hc hx;obtain⟨sl',e2⟩:=b.slot c _ e1 (a.free c ob q n hx) hc hx;exact⟨sl',e2⟩
 free:=λc ob q n hx=>by
  obtain⟨o',e1⟩:=a.there c ob q hx;exact b.free c o' e1 (a.free c ob q n hx) hx
 there:=λc ob q hx=>by
  obtain⟨o',e1⟩:=a.there c ob q hx;exact b.there c o' e1 hx
 tups:=λc xs q=>b.tups c xs (a.tups c xs q)
 frzs:=λc ob xs q=>b.frzs c ob xs (a.frzs c ob xs q)
 tbls:=λc ps q=>by
  obtain⟨m1,e1⟩:=a.tbls c ps q;obtain⟨m2,e2⟩:=b.tbls c _ e1;exact⟨m1++m2,by rw[e2,Array.append_assoc]⟩
theorem Un.kept(k:∀b u,h.get? b=some u->h'.get? b=some u):Un fs ex H H h h' :=
 ⟨λb ob q _ _ _=>k b ob q,λb ob q _ _ _=>⟨ob.slots,k b ob q⟩,λ_ _ _ n _=>n,λb ob q _=>⟨ob,k b ob q⟩,λ_ _ q=>q,λ_ _ _ q=>q,λ_ ps q=>⟨#[],by rw[q];simp⟩⟩
theorem Un.refl:Un fs ex H H h h:=Un.kept λ_ _ q=>q
theorem Un.laid(k:∀b u,h.get? b=some u->h'.get? b=some u)(hp:h.objs.size<=a)(hn:H a=none):Un fs ex H (upd H a o) h h' where
 keep:=λb u q _ _ _=>k b u q
 slot:=λb u q _ _ _=>⟨u.slots,k b u q⟩
 free:=λb u q n _=>by rw[zh (Nat.ne_of_lt (Nat.lt_of_lt_of_le (Heap.lt_size q) hp))];exact n
 there:=λb u q _=>⟨u,k b u q⟩
 tups:=λb xs q=>by rw[zh (yd q hn)];exact q
 frzs:=λb u xs q=>by rw[zh (yd q hn)];exact q
 tbls:=λb ps q=>⟨#[],by rw[zh (yd q hn),q];simp⟩
theorem Un.write(mu:Mut (H x))(he:e=x\/H e=some (.own x))(k:∀b u,b≠e->h.get? b=some u->h'.get? b=some u)(heo:∃u,h'.get? e=some u):Un fs ex H (upd H x o) h h':=by
 have hx:∀b,H b=none->b≠x:=λb n z=>by subst z;rw[n]at mu;exact mu
 have hb:∀b,H b=none->b≠e:=λb n z=>by
  subst z;rcases he with r|r
  ·exact hx b n r
  ·rw[n]at r;cases r
 have hm:∀b u,H b=some u->¬ Mut (some u)->b≠x:=λb u q nm z=>by subst z;rw[q]at mu;exact nm mu
 refine⟨λb u q n _ _=>k b u (hb b n) q,λb u q n _ _=>⟨u.slots,k b u (hb b n) q⟩,λb u q n _=>by rw[zh (hx b n)];exact n,λb u q _=>?_,
  λb xs q=>by rw[zh (hm b _ q λz=>z)];exact q,λb u xs q=>by rw[zh (hm b _ q λz=>z)];exact q,λb ps q=>⟨#[],by rw[zh (hm b _ q λz=>z),q];simp⟩⟩
 by_cases hbe:b=e
 ·subst hbe;exact heo
 ·exact⟨u,k b u hbe q⟩
theorem Un.mono(u:Un fs ex H H1 h h1)(hs:∀b∈fs,b∈fs')(hx:∀b∈ex,b∈ex'):Un fs' ex' H H1 h h1 :=
 ⟨λb ob q n hb he=>u.keep b ob q n (λz=>hb (hs b z)) λz=>he (hx b z),λ_ _ q n _ he=>u.any q n λz=>he (hx _ z),λb ob q n he=>u.free b ob q n λz=>he (hx b z),λb ob q he=>u.there b ob q λz=>he (hx b z),u.tups,u.frzs,u.tbls⟩
end
def trk(h:Heap)(H:Hp):List Addr:=(List.range h.objs.size).filter λa=>(H a).isSome
def zd1(h:Heap)(H:Hp):Heap:=PySem.W.hideAll h (trk h H)
theorem zjf(h:Heap)(H:Hp):(zd1 h H).objs.size=h.objs.size:=PySem.W.hideAll_size _ _
theorem zkt{h:Heap}{H:Hp}{b:Addr}{o:Obj}(e:h.get? b=some o)(n:H b=none):(zd1 h H).get? b=some o :=
 PySem.W.hideAll_get _ e λhm=>by
  have q:(H b).isSome=true:=(List.mem_filter.mp hm).2;rw[n]at q;simp at q
theorem znd{h:Heap}{H:Hp}{b:Addr}{o:Obj}(e:(zd1 h H).get? b=some o):h.get? b=some o/\H b=none:=by
 have e':h.get? b=some o:=PySem.W.of_hideAll (trk h H) e;refine⟨e',?_⟩
 cases q:H b with
 |none=>rfl
 |some x=>
  have hm:b∈trk h H:=List.mem_filter.mpr ⟨List.mem_range.mpr (Heap.lt_size e'),by simp[q]⟩;have z:(zd1 h H).get? b=none:=PySem.W.hideAll_none (trk h H) hm;rw[z]at e;cases e
def zne(g h:Heap)(L:Addr):List (Addr×Obj):=(List.range h.objs.size).filterMap λa=>if a=L\/(g.get? a).isSome=true then none else (h.get? a).map λo=>(a,o)
def rest(g h:Heap)(L d:Addr):List (Addr×Obj):=(zne g h L).filter λp=>decide (p.1≠d)
structure Mod(K:PySem.W.Frag)(mg:Str->Option Value)(base:Heap):Prop where
 kin:K.In base
 glob:base.Ns mainGlobals mg
 blt:∃mb,base.Ns builtinsNs mb/\∀x:Str,x ≠ "__name__" -> mb x=bootBuiltins x
 nolimit:base.NoLimit
structure Cx where
 prog:Program
 w:World
 K:PySem.W.Frag
 mg:Str->Option Value
 base:Heap
 A:Around
 N:List Str
 s₀:Shared
 H₀:Hp
 env:Env
 outer:List Env
 stack:List Env
 ex:List Addr
 fn:Str->Bool
 calm:Bool
 pn:List (Addr×Obj)
 xe:Value->Shared->Prop
def frs(l:List Env):List Addr:=l.filterMap (·.frame)
abbrev Cx.fs(X:Cx):List Addr:=frs X.outer
def Vis(sc:Scope)(x:Str):Prop:=sc.names.lookup x=some .local\/sc.names.lookup x=some .cell\/sc.names.lookup x=some .free
def Loc(sc:Scope)(x:Str):Prop:=sc.names.lookup x=some .local\/sc.names.lookup x=some .cell
def zti(env:Env)(h:Heap)(m:Str->Option Value)(x:Str)(u:Value):Prop :=
 (env.kindOf x=some .local/\m x=some u)\/((env.kindOf x=some .cell\/env.kindOf x=some .free)/\∃c,env.cells.lookup x=some c/\h.IsCell c (some u))
structure Cx.Ok(X:Cx):Prop where
 mod:Mod X.K X.mg X.base
 kind:X.env.scope.kind=.function
 glob:X.env.globals=mainGlobals
 blt:X.env.builtins=builtinsNs
 above:X.s₀.heap.objs.size<=X.env.locals
 inj:∀x y c,X.env.cells.lookup x=some c->X.env.cells.lookup y=some c->x=y
 has:∀x,(X.env.kindOf x=some .cell\/X.env.kindOf x=some .free)->∃c,X.env.cells.lookup x=some c
 cab:∀x c,X.fn x=true->X.env.cells.lookup x=some c->X.s₀.heap.objs.size<=c
 hd:X.calm=true->X.A.handled=none
 frames:X.A.frames=some X.stack
 stk:X.stack=X.outer\/(X.stack=X.env::X.outer/\X.env.frame=some X.env.locals)
 exf:∀b∈X.ex,b≠X.env.locals/\∀x c,X.env.cells.lookup x=some c->c≠b
 bs:∀b o,X.base.get? b=some o->X.s₀.heap.get? b=some o/\X.H₀ b=none
 bsz:X.base.objs.size<=X.s₀.heap.objs.size
 noex:∀b o,X.base.get? b=some o->b∉X.ex
 exfs:∀b∈X.ex,b∉X.fs
 funs:X.s₀.heap.FunFrames X.base X.outer
 frf:∀b∈X.fs,X.H₀ b=none
structure Inv(X:Cx)(pins:List (Addr×Obj))(σ:List (Option V))(H:Hp)(s:Shared):Prop where
 ok:X.Ok
 os:s.os=X.s₀.os
 bare:AllBare s.gens
 base:Un X.fs X.ex X.H₀ H X.s₀.heap s.heap
 loc:∃m,s.heap.Ns X.env.locals m/\∀(i:Nat) (x:Str) (v:V),X.N[i]?=some x->σ[i]?=some (some v)->Vis X.env.scope x->∃u,RelV v u/\zti X.env s.heap m x u
 cell:∀x c,X.env.cells.lookup x=some c->∃v,s.heap.IsCell c v
 free:H X.env.locals=none
 freeC:∀x c,X.env.cells.lookup x=some c->H c=none
 pin:∀p∈X.pn++pins,s.heap.get? p.1=some p.2/\H p.1=none/\p.1≠X.env.locals/\p.1∉X.fs/\∀v,p.2.data ≠ .cell v
 hok:HOk X.prog X.w H s.heap
 len:σ.length=X.N.length
section
variable {X:Cx}{pins:List (Addr×Obj)}{σ:List (Option V)}{H H':Hp}{s:Shared}{h':Heap}
theorem Cx.Ok.nofr(ok:X.Ok){b:Addr}{o:Obj}(e:X.base.get? b=some o):b∉X.fs:=λhb=>by
 have:=(ok.funs.mem hb).1;rw[e]at this;cases this
theorem Inv.bs(I:Inv X pins σ H s):∀b o,X.base.get? b=some o->s.heap.get? b=some o/\H b=none:=λb o e=>
 ⟨I.base.keep b o (I.ok.bs b o e).1 (I.ok.bs b o e).2 (I.ok.nofr e) (I.ok.noex b o e),I.base.free b o (I.ok.bs b o e).1 (I.ok.bs b o e).2 (I.ok.noex b o e)⟩
theorem Inv.bk(I:Inv X pins σ H s):∀b o,X.base.get? b=some o->s.heap.get? b=some o:=λb o e=>(I.bs b o e).1
theorem Inv.mod(I:Inv X pins σ H s):Mod X.K X.mg X.base:=I.ok.mod
theorem Inv.kIn(I:Inv X pins σ H s):X.K.In s.heap:=I.ok.mod.kin.keeps I.bk
theorem Inv.lt(I:Inv X pins σ H s):X.env.locals<s.heap.objs.size:=let ⟨_,hn,_⟩:=I.loc;hn.lt
theorem Inv.sz(I:Inv X pins σ H s):X.s₀.heap.objs.size<=s.heap.objs.size:=Nat.le_trans I.ok.above (Nat.le_of_lt I.lt)
theorem Inv.nofs(I:Inv X pins σ H s){a:Addr}(h:s.heap.objs.size<=a):a∉X.fs:=λhb=>by
 obtain⟨_,o,ho,_⟩:=I.ok.funs.mem hb;exact absurd (Nat.lt_of_lt_of_le (Heap.lt_size ho) (Nat.le_trans I.sz h)) (Nat.lt_irrefl _)
theorem Inv.cne(I:Inv X pins σ H s):∀x c,X.env.cells.lookup x=some c->c≠X.env.locals:=λx c e z=>by
 obtain⟨v,o,ho,hd⟩:=I.cell x c e;obtain⟨m,⟨o',es,ep,ho',hd',_⟩,_⟩:=I.loc;rw[z,ho']at ho;cases ho;rw[hd']at hd;cases hd
theorem Inv.funs(I:Inv X pins σ H s):s.heap.FunFrames X.base X.outer:=by
 have all:∀(l:List Env),(∀b∈frs l,b∈X.fs)->X.s₀.heap.FunFrames X.base l->s.heap.FunFrames X.base l:=by
  intro l
  induction l with
  |nil=>intro _ _;trivial
  |cons env r ih=>
   intro hs hl;obtain⟨hk,⟨L,o,hf,hn,ho,hd⟩,hr⟩:=hl;have hL:L∈X.fs:=hs L (by unfold frs;rw[List.filterMap_cons,hf];exact List.mem_cons_self);obtain⟨sl,e⟩:=I.base.slot L o ho (I.ok.frf L hL) hL λz=>I.ok.exfs L z hL;exact⟨hk,⟨L,_,hf,hn,e,hd⟩,ih (λb hb=>hs b (by unfold frs;rw[List.filterMap_cons,hf];exact List.mem_cons_of_mem _ hb)) hr⟩
 exact all X.outer (λ_ hb=>hb) I.ok.funs
theorem Inv.stack(I:Inv X pins σ H s):s.heap.FunFrames X.base X.stack:=by
 rcases I.ok.stk with e |⟨e,hf⟩
 ·rw[e];exact I.funs
 ·rw[e];obtain⟨m,hn,_⟩:=I.loc;refine .cons (by rw[I.ok.kind];decide) hf hn ?_ I.funs;exact Heap.get?_none_of_le (Nat.le_trans I.ok.bsz I.ok.above)
theorem Inv.stkSub(I:Inv X pins σ H s):∀b∈frs X.stack,b∈X.env.locals::X.fs:=λb hb=>by
 rcases I.ok.stk with e |⟨e,hf⟩
 ·rw[e]at hb;exact List.mem_cons_of_mem _ hb
 ·rw[e]at hb;unfold frs at hb;rw[List.filterMap_cons,hf]at hb;exact hb
theorem Inv.stkFree(I:Inv X pins σ H s):∀b∈frs X.stack,H b=none:=λb hb=>by
 rcases List.mem_cons.mp (I.stkSub b hb) with e|hb
 ·rw[e];exact I.free
 ·obtain⟨_,o,ho,_⟩:=I.ok.funs.mem hb;exact I.base.free b o ho (I.ok.frf b hb) λz=>I.ok.exfs b z hb
theorem Inv.step{g':Array GenState}{t':Nat}{d':Drawn}{ch:List Addr}(I:Inv X pins σ H s)
  (hch:∀b∈ch,(b∈X.ex\/X.s₀.heap.objs.size<=b)/\b≠X.env.locals/\(∀x c,X.env.cells.lookup x=some c->c≠b)/\∀p∈X.pn++pins,p.1≠b)
  (keep:∀b o,b≠X.env.locals->b∉X.fs->b∉ch->s.heap.get? b=some o->H b=none->h'.get? b=some o)
  (slot:∀b o,b≠X.env.locals->b∈X.fs->b∉ch->s.heap.get? b=some o->H b=none->∃sl,h'.get? b=some { o with slots:=sl }) (free:∀b o,b∉ch->s.heap.get? b=some o->H b=none->H' b=none)
  (there:∀b o,b∉ch->s.heap.get? b=some o->∃o',h'.get? b=some o')
  (tups:∀b xs,H b=some (.tup xs)->H' b=some (.tup xs)) (frzs:∀b o u,H b=some (.frz o u)->H' b=some (.frz o u)) (tbls:∀b ps,H b=some (.tbl ps)->∃more,H' b=some (.tbl (ps++more)))
  (ns:∀m,s.heap.Ns X.env.locals m->h'.Ns X.env.locals m) (hok:HOk X.prog X.w H' h') (hg:AllBare g') :
  Inv X pins σ H' { s with heap:=h',gens:=g',drawn:=d',toks:=t' }:=by
 have neL:∀b o,X.s₀.heap.get? b=some o->b≠X.env.locals:=λb o e=>Nat.ne_of_lt (Nat.lt_of_lt_of_le (Heap.lt_size e) I.ok.above);have neC:∀b o,X.s₀.heap.get? b=some o->b∉X.ex->b∉ch:=λb o e hx hb=>by
  rcases (hch b hb).1 with z|z
  ·exact hx z
  ·exact absurd (Nat.lt_of_lt_of_le (Heap.lt_size e) z) (Nat.lt_irrefl _)
 have cellK:∀x c,X.env.cells.lookup x=some c->∀v,s.heap.IsCell c v->h'.IsCell c v:=λx c e v ⟨o,ho,hd⟩=>by
  have nch:c∉ch:=λz=>(hch c z).2.2.1 x c e rfl
  by_cases hc:c∈X.fs
  ·obtain⟨sl,q⟩:=slot c o (I.cne x c e) hc nch ho (I.freeC x c e);exact⟨_,q,hd⟩
  ·exact⟨o,keep c o (I.cne x c e) hc nch ho (I.freeC x c e),hd⟩
 refine⟨I.ok,I.os,hg,⟨λb o e n hb hx=>?_,λb o e n hb hx=>?_,λb o e n hx=>?_,λb o e hx=>?_,λb xs e=>tups b xs (I.base.tups b xs e),λb o xs e=>frzs b o xs (I.base.frzs b o xs e),λb ps e=>?_⟩,?_,λx c e=>?_,?_,λx c e=>?_,λp hp=>?_,hok,I.len⟩
 ·exact keep b o (neL b o e) hb (neC b o e hx) (I.base.keep b o e n hb hx) (I.base.free b o e n hx)
 ·obtain⟨sl,e1⟩:=I.base.slot b o e n hb hx;obtain⟨sl',e2⟩:=slot b _ (neL b o e) hb (neC b o e hx) e1 (I.base.free b o e n hx);exact⟨sl',e2⟩
 ·obtain⟨o',e1⟩:=I.base.there b o e hx;exact free b o' (neC b o e hx) e1 (I.base.free b o e n hx)
 ·obtain⟨o',e1⟩:=I.base.there b o e hx;exact there b o' (neC b o e hx) e1
 ·obtain⟨m1,e1⟩:=I.base.tbls b ps e;obtain⟨m2,e2⟩:=tbls b _ e1;exact⟨m1++m2,by rw[e2,Array.append_assoc]⟩
 ·obtain⟨m,hn,hl⟩:=I.loc;refine⟨m,ns m hn,λi x v e1 e2 e3=>?_⟩;obtain⟨u,r,l⟩:=hl i x v e1 e2 e3;refine⟨u,r,?_⟩;rcases l with l |⟨k,c,e,z⟩
  ·exact .inl l
  ·exact .inr ⟨k,c,e,cellK x c e _ z⟩
 ·obtain⟨v,z⟩:=I.cell x c e;exact⟨v,cellK x c e v z⟩
 ·obtain⟨m,⟨o,_,_,ho,_⟩,_⟩:=I.loc;exact free _ o (λz=>(hch _ z).2.1 rfl) ho I.free
 ·obtain⟨v,o,ho,hd⟩:=I.cell x c e;exact free c o (λz=>(hch c z).2.2.1 x c e rfl) ho (I.freeC x c e)
 ·obtain⟨e,n,ne,nf,d⟩:=I.pin p hp;have nch:p.1∉ch:=λz=>(hch p.1 z).2.2.2 p hp rfl;exact⟨keep p.1 p.2 ne nf nch e n,free p.1 p.2 nch e n,ne,nf,d⟩
theorem Inv.un{t':Nat}(I:Inv X pins σ H s)(u:Un X.fs [] H H' s.heap h')(hok:HOk X.prog X.w H' h'):Inv X pins σ H' { s with heap:=h',toks:=t' }:=by
 obtain⟨m,⟨o,es,ep,ho,r⟩,_⟩:=id I.loc;obtain⟨sl,hL⟩:=u.any ho I.free (by simp);exact I.step (g':=s.gens) (d':=s.drawn) (ch:=[]) (λ_ z=>nomatch z) (λb o _ hb _ e n=>u.keep b o e n hb (by simp)) (λb o _ hb _ e n=>u.slot b o e n hb (by simp)) (λb o _ e n=>u.free b o e n (by simp)) (λb o _ e=>u.there b o e (by simp)) u.tups u.frzs u.tbls (λm' hm=>by
  obtain⟨o',es',ep',ho',r'⟩:=hm;rw[ho]at ho';cases ho';exact⟨_,es',ep',hL,r'⟩) hok I.bare
theorem Inv.call{g':Array GenState}{t':Nat}{d':Drawn}{ch:List Addr}(I:Inv X pins σ H s)(u:Un (frs X.stack) ch H H' s.heap h')(hok:HOk X.prog X.w H' h')(hg:AllBare g')
  (hch:∀b∈ch,(b∈X.ex\/X.s₀.heap.objs.size<=b)/\b≠X.env.locals/\(∀x c,X.env.cells.lookup x=some c->c≠b)/\∀p∈X.pn++pins,p.1≠b) :
  Inv X pins σ H' { s with heap:=h',gens:=g',drawn:=d',toks:=t' }:=by
 obtain⟨m,⟨o,es,ep,ho,r⟩,_⟩:=id I.loc;obtain⟨sl,hL⟩:=u.any ho I.free λz=>(hch _ z).2.1 rfl;exact I.step (ch:=ch) hch (λb o hL hb hc e n=>u.keep b o e n (λz=>(List.mem_cons.mp (I.stkSub b z)).elim hL hb) hc) (λb o _ _ hc e n=>u.any e n hc) (λb o hc e n=>u.free b o e n hc) (λb o hc e=>u.there b o e hc) u.tups u.frzs u.tbls (λm' hm=>by
  obtain⟨o',es',ep',ho',r'⟩:=hm;rw[ho]at ho';cases ho';exact⟨_,es',ep',hL,r'⟩) hok hg
theorem Inv.turned{t':Nat}{it:Addr}(I:Inv X pins σ H s)(k:∀b o,b≠it->s.heap.get? b=some o->h'.get? b=some o)(hn:H it=none)(hL:it≠X.env.locals)
  (h1:it∈X.ex\/X.s₀.heap.objs.size<=it) (h2:∀x c,X.env.cells.lookup x=some c->c≠it) (h3:∀p∈X.pn++pins,p.1≠it):Inv X pins σ H { s with heap:=h',toks:=t' }:=by
 have nit:∀b u,H b=some u->b≠it:=λb u e z=>by rw[z,hn]at e;cases e
 refine I.step (g':=s.gens) (d':=s.drawn) (ch:=[it]) (λb hb=>?_) (λb o _ _ hc e _=>k b o (λz=>hc (by simp[z])) e) (λb o _ _ hc e _=>⟨o.slots,k b o (λz=>hc (by simp[z])) e⟩) (λ_ _ _ _ n=>n)
  (λb o hc e=>⟨o,k b o (λz=>hc (by simp[z])) e⟩) (λ_ _ e=>e) (λ_ _ _ e=>e) (λb ps e=>⟨#[],by rw[e];simp⟩) (λm hm=>?_) (λb u e=>?_) I.bare
 ·have e:b=it:=by simpa using hb
  subst e;exact⟨h1,hL,h2,h3⟩
 ·obtain⟨o,es,ep,ho,r⟩:=hm;exact⟨o,es,ep,k _ o (Ne.symm hL) ho,r⟩
 ·refine(I.hok b u e).stay (λc v hc q=>k c v ?_ q) (λ_ q=>q) λ_ _ q=>q;rcases hc with z|z
  ·rw[z];exact nit b u e
  ·exact nit c _ z
theorem Inv.tok(I:Inv X pins σ H s)(t:Nat):Inv X pins σ H { s with toks:=t }:=I.un (h':=s.heap) (t':=t) Un.refl I.hok
theorem Inv.kept{t':Nat}(I:Inv X pins σ H s)(k:∀b u,s.heap.get? b=some u->h'.get? b=some u):Inv X pins σ H { s with heap:=h',toks:=t' }:=I.un (Un.kept k) (I.hok.kept k)
theorem Inv.laid{a:Addr}{o:HO}{t':Nat}(I:Inv X pins σ H s)(k:∀b u,s.heap.get? b=some u->h'.get? b=some u)(hp:s.heap.objs.size<=a)(new:ObjOk X.prog X.w (upd H a o) h' a o):
  Inv X pins σ (upd H a o) { s with heap:=h',toks:=t' }:=I.un (Un.laid k hp (I.hok.fresh hp)) (I.hok.laid k hp new)
theorem Inv.write{x e:Addr}{o:HO}{t':Nat}(I:Inv X pins σ H s)(mu:Mut (H x))(he:e=x\/H e=some (.own x))(k:∀b u,b≠e->s.heap.get? b=some u->h'.get? b=some u)(heo:∃u,h'.get? e=some u)
  (new:ObjOk X.prog X.w (upd H x o) h' x o):Inv X pins σ (upd H x o) { s with heap:=h',toks:=t' }:=I.un (Un.write mu he k heo) (I.hok.write mu he k heo new)
theorem Inv.pins_of{pins':List (Addr×Obj)}(I:Inv X pins σ H s)(h:∀p∈pins',s.heap.get? p.1=some p.2/\H p.1=none/\p.1≠X.env.locals/\p.1∉X.fs/\∀v,p.2.data ≠ .cell v):Inv X pins' σ H s :=
 ⟨I.ok,I.os,I.bare,I.base,I.loc,I.cell,I.free,I.freeC,λp hp=>(List.mem_append.mp hp).elim (λz=>I.pin p (List.mem_append_left _ z)) (h p),I.hok,I.len⟩
theorem zfg{N:List Str}(hN:N.Nodup){i j:Nat}{x:Str}(a:N[i]?=some x)(b:N[j]?=some x):i=j:=by
 obtain⟨h1,e1⟩:=List.getElem?_eq_some_iff.mp a;obtain⟨h2,e2⟩:=List.getElem?_eq_some_iff.mp b;exact(List.getElem_inj hN).mp (e1.trans e2.symm)
theorem zaz{M:Model}{A:Around}{E:Value->Shared->Prop}{i:Nat}{x:Str}{v:V}{u:Value}{Q:Unit->Shared->Prop}(I:Inv X pins σ H s)(hN:X.N.Nodup)(hi:X.N[i]?=some x)(hx:Loc X.env.scope x)(r:RelV v u)
  (h:∀s',Inv X pins (σ.set i (some v)) H s'->(∃a,Heap.SameBut a s.heap s'.heap/\(a=X.env.locals\/X.env.cells.lookup x=some a))->Q () s') (hf:X.fn x=true\/X.env.scope.names.lookup x=some .local:=by first|exact .inl rfl|exact .inr rfl|assumption):wpAny M A (storeName X.env x u) Q E s:=by
 obtain⟨m,hn,hl⟩:=id I.loc;have hcls:(X.env.scope.kind == .class ||(X.env.scope.kind == .module && X.env.locals != X.env.globals))=false:=by rw[I.ok.kind];rfl
 have hiσ:i<σ.length:=by rw[I.len];exact(List.getElem?_eq_some_iff.mp hi).1
 have cne:=I.cne;have tracked:∀{a:Addr}{h':Heap},(∃o,s.heap.get? a=some o/\H a=none)->Heap.SameBut a s.heap h'->HOk X.prog X.w H h':=λ{a h'} ha hs b ob e=>by
  obtain⟨_,_,hfree⟩:=ha;refine(I.hok b ob e).stay (λc w' hc q=>(hs.2 c ?_).trans q) (λ_ q=>q) λ_ _ q=>q;rintro rfl;rcases hc with rfl|hc
  ·rw[hfree]at e;cases e
  ·rw[hfree]at hc;cases hc
 rcases hx with hk|hk
 ·refine wpAny_storeName_local hk hn (λh' hn' hs=>?_) hcls;obtain⟨oL,_,_,hoL,_⟩:=id hn;refine h _ ⟨I.ok,I.os,I.bare,⟨λb o e n hb hx=>?_,λb o e n hb hx=>?_,I.base.free,λb o e hx=>?_,I.base.tups,I.base.frzs,I.base.tbls⟩,⟨_,hn',λj y v' e1 e2 e3=>?_⟩,λy c e=>?_,I.free,I.freeC,λp hp=>?_,tracked ⟨oL,hoL,I.free⟩ hs,by simpa using I.len⟩ ⟨_,hs,.inl rfl⟩
  ·exact(hs.2 b (Nat.ne_of_lt (Nat.lt_of_lt_of_le (Heap.lt_size e) I.ok.above))).trans (I.base.keep b o e n hb hx)
  ·obtain⟨sl,e1⟩:=I.base.slot b o e n hb hx;exact⟨sl,(hs.2 b (Nat.ne_of_lt (Nat.lt_of_lt_of_le (Heap.lt_size e) I.ok.above))).trans e1⟩
  ·obtain⟨o',e1⟩:=I.base.there b o e hx;exact⟨o',(hs.2 b (Nat.ne_of_lt (Nat.lt_of_lt_of_le (Heap.lt_size e) I.ok.above))).trans e1⟩
  ·by_cases hj:j=i
   ·subst hj;rw[hi]at e1;cases e1;rw[List.getElem?_set_self hiσ]at e2
    cases e2;exact⟨u,r,.inl ⟨hk,by simp⟩⟩
   ·rw[List.getElem?_set_ne (Ne.symm hj)]at e2;obtain⟨u',r',q⟩:=hl j y v' e1 e2 e3;refine⟨u',r',?_⟩;rcases q with⟨k,e⟩ |⟨k,c,e,z⟩
    ·refine .inl ⟨k,?_⟩;have:y≠x:=λe=>hj (zfg hN e1 (e ▸ hi));simp[this,e]
    ·exact .inr ⟨k,c,e,z.sameBut hs (cne y c e)⟩
  ·obtain⟨w',z⟩:=I.cell y c e;exact⟨w',z.sameBut hs (cne y c e)⟩
  ·obtain⟨e,n,ne,nf,d⟩:=I.pin p hp;exact⟨(hs.2 p.1 ne).trans e,n,ne,nf,d⟩
 ·have hfn:X.fn x=true:=by
   rcases hf with z|z
   ·exact z
   ·rw[z]at hk;cases hk
  obtain⟨c,hc⟩:=I.ok.has x (.inl hk);obtain⟨w',z⟩:=I.cell x c hc;refine wpAny_storeName_cell I.ok.kind hk hc z (λh' hc' hs=>?_);obtain⟨oc,hoc,hocd⟩:=id z;refine h { s with heap:=h' } ⟨I.ok,I.os,I.bare,⟨λb o e n hb hx=>?_,λb o e n hb hx=>?_,I.base.free,λb o e hx=>?_,I.base.tups,I.base.frzs,I.base.tbls⟩,⟨m,hn.sameBut hs (Ne.symm (cne x c hc)),λj y v' e1 e2 e3=>?_⟩,λy c' e=>?_,I.free,I.freeC,λp hp=>?_,tracked ⟨oc,hoc,I.freeC x c hc⟩ hs,by simpa using I.len⟩ ⟨c,hs,.inr hc⟩
  ·exact(hs.2 b (Nat.ne_of_lt (Nat.lt_of_lt_of_le (Heap.lt_size e) (I.ok.cab x c hfn hc)))).trans (I.base.keep b o e n hb hx)
  ·obtain⟨sl,e1⟩:=I.base.slot b o e n hb hx;exact⟨sl,(hs.2 b (Nat.ne_of_lt (Nat.lt_of_lt_of_le (Heap.lt_size e) (I.ok.cab x c hfn hc)))).trans e1⟩
  ·obtain⟨o',e1⟩:=I.base.there b o e hx;exact⟨o',(hs.2 b (Nat.ne_of_lt (Nat.lt_of_lt_of_le (Heap.lt_size e) (I.ok.cab x c hfn hc)))).trans e1⟩
  ·by_cases hj:j=i
   ·subst hj;rw[hi]at e1;cases e1;rw[List.getElem?_set_self hiσ]at e2
    cases e2;exact⟨u,r,.inr ⟨.inl hk,c,hc,hc'⟩⟩
   ·rw[List.getElem?_set_ne (Ne.symm hj)]at e2;obtain⟨u',r',q⟩:=hl j y v' e1 e2 e3;refine⟨u',r',?_⟩;rcases q with q |⟨k,c',e,z'⟩
    ·exact .inl q
    ·refine .inr ⟨k,c',e,z'.sameBut hs ?_⟩;rintro rfl;exact hj (zfg hN e1 (I.ok.inj _ _ _ e hc ▸ hi))
  ·by_cases hcc:c'=c
   ·subst hcc;exact⟨_,hc'⟩
   ·obtain⟨w2,z2⟩:=I.cell y c' e;exact⟨w2,z2.sameBut hs hcc⟩
  ·obtain⟨e,n,ne,nf,d⟩:=I.pin p hp;refine⟨(hs.2 p.1 ?_).trans e,n,ne,nf,d⟩;intro q;rw[q,hoc]at e;have q':oc=p.2:=Option.some.inj e;exact d w' (by rw[<-q'];exact hocd)
theorem kc{M:Model}{A:Around}{E:Value->Shared->Prop}{i:Nat}{x:Str}{v:V}{u:Value}{Q:Unit->Shared->Prop}(I:Inv X pins σ H s)(hN:X.N.Nodup)(hi:X.N[i]?=some x)(hx:Loc X.env.scope x)(r:RelV v u)
  (h:∀s',Inv X pins (σ.set i (some v)) H s'->Q () s') (hf:X.fn x=true\/X.env.scope.names.lookup x=some .local:=by first|exact .inl rfl|exact .inr rfl|assumption):wpAny M A (storeName X.env x u) Q E s :=
 zaz I hN hi hx r (λs' I' _=>h s' I') hf
theorem Inv.call'{s':Shared}{ch:List Addr}(I:Inv X pins σ H s)(ho:s'.os=s.os)(u:Un (frs X.stack) ch H H' s.heap s'.heap)(hok:HOk X.prog X.w H' s'.heap)(hg:AllBare s'.gens)
  (hch:∀b∈ch,(b∈X.ex\/X.s₀.heap.objs.size<=b)/\b≠X.env.locals/\(∀x c,X.env.cells.lookup x=some c->c≠b)/\∀p∈X.pn++pins,p.1≠b):Inv X pins σ H' s':=by
 obtain⟨h',g',d',t',o'⟩:=s';have e:o'=s.os:=ho;subst e;exact I.call (g':=g') (t':=t') (d':=d') u hok hg hch
end
abbrev XK:=Value->Option Addr->Hp->Prop
abbrev St:=List (Option V)
abbrev VK:=V->Hp->Prop
abbrev TE:=St->Hp->VK->Prop
abbrev TT:=St->Hp->(Bool->Hp->Prop)->Prop
abbrev TA:=St->Hp->(List V->Hp->Prop)->Prop
structure zgm where
 nx:St->Hp->Prop
 rt:VK
 bk:St->Hp->Prop:=λ_ _=>False
 ct:St->Hp->Prop:=λ_ _=>False
abbrev TS:=zgm->St->Hp->Prop
def EP(X:Cx)(pins:List (Addr×Obj))(σ:St)(Q:VK)(u:Value)(s':Shared):Prop:=∃v H',Inv X pins σ H' s'/\RelV v u/\Q v H'
def TP(X:Cx)(pins:List (Addr×Obj))(σ:St)(Q:Bool->Hp->Prop)(b:Bool)(s':Shared):Prop:=∃H',Inv X pins σ H' s'/\Q b H'
def AP(X:Cx)(pins:List (Addr×Obj))(σ:St)(Q:List V->Hp->Prop)(us:List Value)(s':Shared):Prop:=∃vs H',Inv X pins σ H' s'/\Vals vs us/\Q vs H'
def SP(X:Cx)(pins:List (Addr×Obj))(D:zgm)(f:Flow)(s':Shared):Prop :=
 match f with
 |.next=>∃σ' H',Inv X pins σ' H' s'/\D.nx σ' H'
 |.brk=>∃σ' H',Inv X pins σ' H' s'/\D.bk σ' H'
 |.cont=>∃σ' H',Inv X pins σ' H' s'/\D.ct σ' H'
 |.ret u=>∃v σ' H',Inv X pins σ' H' s'/\RelV v u/\D.rt v H'
def PE(X:Cx)(e:Expr)(t:TE):Prop :=
 ∀(pins:List (Addr×Obj)) (s:Shared) (σ:St) (H:Hp) (Q:VK),Inv X pins σ H s->t σ H Q->wpAny (model X.prog X.w) X.A (eval e X.env) (EP X pins σ Q) X.xe s
def PT(X:Cx)(e:Expr)(t:TT):Prop :=
 ∀(pins:List (Addr×Obj)) (s:Shared) (σ:St) (H:Hp) (Q:Bool->Hp->Prop),Inv X pins σ H s->t σ H Q->wpAny (model X.prog X.w) X.A (isTrue e X.env (eval e X.env)) (TP X pins σ Q) X.xe s
def PW(X:Cx)(e:Expr)(t:TT):Prop :=
 ∀(whole:Sem Value) (pins:List (Addr×Obj)) (s:Shared) (σ:St) (H:Hp) (Q:Bool->Hp->Prop),Inv X pins σ H s->t σ H Q->wpAny (model X.prog X.w) X.A (isTrue e X.env whole) (TP X pins σ Q) X.xe s
theorem PW.pt{X:Cx}{e:Expr}{t:TT}(h:PW X e t):PT X e t:=h _
def PA(X:Cx)(es:List Expr)(t:TA):Prop :=
 ∀(pos:Pos) (pins:List (Addr×Obj)) (s:Shared) (σ:St) (H:Hp) (Q:List V->Hp->Prop),Inv X pins σ H s->t σ H Q->wpAny (model X.prog X.w) X.A (spliced (backTo pos (starEach es X.env))) (AP X pins σ Q) X.xe s
def PS(X:Cx)(st:Stmt)(t:TS):Prop :=
 ∀(pins:List (Addr×Obj)) (s:Shared) (σ:St) (H:Hp) (D:zgm),Inv X pins σ H s->t D σ H->wpAny (model X.prog X.w) X.A (exec st X.env) (SP X pins D) X.xe s
def PSs(X:Cx)(st:List Stmt)(t:TS):Prop :=
 ∀(pins:List (Addr×Obj)) (s:Shared) (σ:St) (H:Hp) (D:zgm),Inv X pins σ H s->t D σ H->wpAny (model X.prog X.w) X.A (execs st X.env) (SP X pins D) X.xe s
theorem thn{α:Type}{t:Sem α}{Q Q':α->Shared->Prop}{M:Model}{A:Around}{E:Value->Shared->Prop}{s:Shared}(h:wpAny M A t Q E s)(hQ:∀a s,Q a s->Q' a s):wpAny M A t Q' E s:=wpAny_mono h hQ λ_ _ x=>x
section
variable {X:Cx}
def zr7(i:Nat):TE:=λσ H Q=>∃v,σ[i]?=some (some v)/\Q v H
def tC(v:V):TE:=λ_ H Q=>Q v H
theorem x5{i:Nat}{x:Str}{pos:Pos}(hN:X.N[i]?=some x)(hv:Vis X.env.scope x)(hd:(x ==("__debug__" : Str))=false:=by decide)(hcd:(x ==("__classdict__" : Str))=false:=by decide):PE X (.Name x pos) (zr7 i):=by
 intro pins s σ H Q I h;obtain⟨v,e,h⟩:=h;obtain⟨m,hn,hl⟩:=I.loc;obtain⟨u,r,l⟩:=hl i x v hN e hv;have fin:EP X pins σ Q u s:=⟨v,H,I,r,h⟩
 rcases l with⟨hk,hm⟩ |⟨hk,c,hc,hcell⟩
 ·exact wpAny_Name (wpAny_loadName_local I.ok.kind hk hn hm fin) hd
 ·rcases hk with hk|hk
  ·exact wpAny_Name (wpAny_loadName_cell I.ok.kind hk hc hcell fin) hd
  ·exact wpAny_Name (wpAny_loadName_free I.ok.kind hk hc hcell fin hcd) hd
theorem x6{i j pos}:PE X (.Constant (.int i) j pos) (tC (.int i)):=λ_ _ _ H _ I h=>wpAny_Constant_int ⟨.int i,H,I.tok _,⟨_,rfl⟩,h⟩
theorem zr8{b j pos}:PE X (.Constant (.bool b) j pos) (tC (.bl b)):=λ_ _ _ H _ I h=>Constant_bool ⟨.bl b,H,I,rfl,h⟩
theorem zpy{x j pos}:PE X (.Constant (.str x) j pos) (tC (.str x)):=λ_ _ _ H _ I h=>Calls.Constant_str ⟨.str x,H,I.tok _,⟨_,rfl⟩,h⟩
def Gl(X:Cx)(x:Str):Prop:=X.env.kindOf x=some .globalImplicit
theorem v0{E:Value->Shared->Prop}{pins:List (Addr×Obj)}{s:Shared}{σ:St}{H:Hp}{x:Str}{u:Value}{pos:Pos}{Q:Value->Shared->Prop}(I:Inv X pins σ H s)(hg:Gl X x)(hm:X.mg x=some u)(h:Q u s)
  (hd:(x ==("__debug__" : Str))=false:=by decide):wpAny (model X.prog X.w) X.A (eval (.Name x pos) X.env) Q E s :=
 Calls.Name_function_global I.ok.kind hg (Calls.loadGlobal_global (by rw[I.ok.glob];exact I.mod.glob.keeps I.bk) hm h) hd
theorem jo{E:Value->Shared->Prop}{pins:List (Addr×Obj)}{s:Shared}{σ:St}{H:Hp}{x:Str}{u:Value}{pos:Pos}{Q:Value->Shared->Prop}(I:Inv X pins σ H s)(hg:Gl X x)(hm:X.mg x=none)(hv:bootBuiltins x=some u)(h:Q u s)
  (hn:x ≠ "__name__" := by decide) (hd:(x ==("__debug__" : Str))=false:=by decide):wpAny (model X.prog X.w) X.A (eval (.Name x pos) X.env) Q E s:=by
 obtain⟨mb,h1,h2⟩:=I.mod.blt;exact Calls.Name_function_global I.ok.kind hg (Calls.loadGlobal_builtin (by rw[I.ok.glob];exact I.mod.glob.keeps I.bk) hm (by rw[I.ok.blt];exact h1.keeps I.bk) ((h2 x hn).trans hv) h) hd
theorem yv{x:Str}{v:V}{u:Value}{pos:Pos}(hg:Gl X x)(hm:X.mg x=some u)(r:RelV v u)(hd:(x ==("__debug__" : Str))=false:=by decide):PE X (.Name x pos) (tC v) :=
 λ_ _ _ H _ I h=>v0 I hg hm ⟨v,H,I,r,h⟩ hd
theorem wb{x:Str}{v:V}{u:Value}{pos:Pos}(hg:Gl X x)(hm:X.mg x=none)(hv:bootBuiltins x=some u)(r:RelV v u)(hn:x ≠ "__name__" := by decide)(hd:(x ==("__debug__" : Str))=false:=by decide):PE X (.Name x pos) (tC v) :=
 λ_ _ _ H _ I h=>jo I hg hm hv ⟨v,H,I,r,h⟩ hn hd
variable {a b:Expr}{ta tb:TE}{pos:Pos}
variable {tA tB':TT}{rest:List Expr}
def ztj(t u:TT):TT:=λσ H Q=>t σ H λc H1=>if c=true then u σ H1 Q else Q false H1
theorem znf(ha:PT X a tA):PW X (.BoolOp .And [a] pos) tA:=by
 intro wh pins s σ H Q I h;refine isTrue_and (thn (ha pins s σ H Q I h) λc s1 e=>?_)
 cases c with
 |true=>exact isTrue_and_nil e
 |false=>exact e
theorem zpz(ha:PT X a tA)(hb:PW X (.BoolOp .And (b::rest) pos) tB'):PW X (.BoolOp .And (a::b::rest) pos) (ztj tA tB'):=by
 intro wh pins s σ H Q I h;refine isTrue_and (thn (ha pins s σ H _ I h) λc s1 ⟨H1,I1,q1⟩=>?_)
 cases c with
 |true=>exact hb wh pins s1 σ H1 Q I1 q1
 |false=>exact⟨H1,I1,q1⟩
def tIf(t:TT)(ta tb:TE):TE:=λσ H Q=>t σ H λc H1=>if c=true then ta σ H1 Q else tb σ H1 Q
theorem zku{c:Expr}(hc:PT X c tA)(ha:PE X a ta)(hb:PE X b tb):PE X (.IfExp c a b pos) (tIf tA ta tb):=by
 intro pins s σ H Q I h;refine wpAny_IfExp (thn (hc pins s σ H _ I h) λd s1 ⟨H1,I1,q1⟩=>?_)
 cases d with
 |true=>exact ha pins s1 σ H1 Q I1 q1
 |false=>exact hb pins s1 σ H1 Q I1 q1
end
def SqL(K:PySem.W.Frag)(H:Hp)(a:Addr)(xs:List V):Prop :=
 Rd H a (.lst xs) \/
  ∃(o:Obj) (its:Array Value) (n:Nat),K.lookup a=some o/\o.cls=.type "list" /\ o.dict=none/\o.data=.seq its n/\its.size<=sizeLine/\Vals xs its.toList
def SqT(K:PySem.W.Frag)(H:Hp)(a:Addr)(xs:List V):Prop :=
 Rd H a (.tup xs) \/
  ∃(o:Obj) (its:Array Value) (n:Nat),K.lookup a=some o/\o.cls=.type "tuple" /\ o.dict=none/\o.data=.seq its n/\its.size<=sizeLine/\Vals xs its.toList
def ztk:Value->Option V
 |.none=>some .non
 |.bool b=>some (.bl b)
 |.int i _=>some (.int i)
 |.str x _=>some (.str x)
 |.bytes b _=>some (.byt b)
 |.float b _=>some (.flt b)
 |.ref a=>some (.ref a)
 |.type n=>some (.ty n)
 |_=>none
theorem RelV.abs{x:V}{u:Value}(r:RelV x u):ztk u=some x:=by
 cases x with
 |non=>cases r;rfl
 |bl _=>cases r;rfl
 |int _=>obtain⟨t,rfl⟩:=r;rfl
 |str _=>obtain⟨t,rfl⟩:=r;rfl
 |byt _=>obtain⟨t,rfl⟩:=r;rfl
 |flt _=>obtain⟨t,rfl⟩:=r;rfl
 |ref _=>cases r;rfl
 |ty _=>cases r;rfl
theorem RelV.inj{x y:V}{u:Value}(r:RelV x u)(q:RelV y u):x=y:=Option.some.inj (r.abs.symm.trans q.abs)
theorem Vals.inj{xs ys:List V}{us:List Value}(h:Vals xs us)(h':Vals ys us):xs=ys:=by
 induction h generalizing ys with
 |nil=>cases h';rfl
 |cons r t ih=>
  cases h' with
  |cons r' t'=>rw[r.inj r',ih t']
section
variable {X:Cx}{pins:List (Addr×Obj)}{σ:St}{H:Hp}{s:Shared}{a:Addr}{xs ys:List V}
theorem SqL.of{K:PySem.W.Frag}(h:H a=some (.lst xs)):SqL K H a xs:=.inl (.inl h)
theorem SqT.of{K:PySem.W.Frag}(h:H a=some (.tup xs)):SqT K H a xs:=.inl (.inl h)
theorem Inv.list(I:Inv X pins σ H s)(h:SqL X.K H a xs):∃its:List Value,Vals xs its/\PlainL s.heap a its.toArray/\xs.length<=sizeLine:=by
 rcases h with h |⟨o,its,n,hk,hc,hd,hs,hz,r⟩
 ·obtain⟨z,its,n,r,e⟩:=h.ok I.hok;exact⟨its,r,⟨_,n,e,rfl,rfl,rfl⟩,z⟩
 ·refine⟨its.toList,r,⟨o,n,I.kIn a o hk,hc,hd,by simpa using hs⟩,?_⟩;have e:=r.length;simp only[Array.length_toList]at e;omega
theorem Inv.tupleD(I:Inv X pins σ H s)(h:SqT X.K H a xs):∃its:List Value,Vals xs its/\TupD s.heap a its.toArray/\xs.length<=sizeLine:=by
 rcases h with h |⟨o,its,n,hk,hc,hd,hs,hz,r⟩
 ·obtain⟨z,its,r,p⟩:=h.ok I.hok;exact⟨its,r,p,z⟩
 ·refine⟨its.toList,r,⟨o,I.kIn a o hk,hc,⟨n,by simpa using hs⟩,hd⟩,?_⟩;have e:=r.length;simp only[Array.length_toList]at e;omega
theorem Inv.tuple(I:Inv X pins σ H s)(h:SqT X.K H a xs):∃its:List Value,Vals xs its/\IsTup s.heap a its.toArray/\xs.length<=sizeLine:=by
 obtain⟨its,r,p,z⟩:=I.tupleD h;exact⟨its,r,p.isTup,z⟩
theorem Inv.list_inj(I:Inv X pins σ H s)(h:SqL X.K H a xs)(h':SqL X.K H a ys):xs=ys:=by
 obtain⟨its,r,⟨o,n,e,_,_,d⟩,_⟩:=I.list h;obtain⟨its',r',⟨o',n',e',_,_,d'⟩,_⟩:=I.list h';rw[e]at e';cases e';rw[d]at d';injection d' with d1 _
 have:its=its':=by simpa using congrArg Array.toList d1
 subst this;exact r.inj r'
theorem Inv.tuple_inj(I:Inv X pins σ H s)(h:SqT X.K H a xs)(h':SqT X.K H a ys):xs=ys:=by
 obtain⟨its,r,⟨o,e,_,n,d⟩,_⟩:=I.tuple h;obtain⟨its',r',⟨o',e',_,n',d'⟩,_⟩:=I.tuple h';rw[e]at e';cases e';rw[d]at d';injection d' with d1 _
 have:its=its':=by simpa using congrArg Array.toList d1
 subst this;exact r.inj r'
end
abbrev Cx.wish(X:Cx)(E:Value->Shared->Prop):Cx:={ X with xe:=E }
abbrev Cx.nox(X:Cx):Cx:=X.wish λ_ _=>False
theorem Cx.Ok.wish{X:Cx}(ok:X.Ok)(E:Value->Shared->Prop):(X.wish E).Ok :=
 ⟨ok.mod,ok.kind,ok.glob,ok.blt,ok.above,ok.inj,ok.has,ok.cab,ok.hd,ok.frames,ok.stk,ok.exf,ok.bs,ok.bsz,ok.noex,ok.exfs,ok.funs,ok.frf⟩
theorem Cx.Ok.unwish{X:Cx}{E:Value->Shared->Prop}(ok:(X.wish E).Ok):X.Ok :=
 ⟨ok.mod,ok.kind,ok.glob,ok.blt,ok.above,ok.inj,ok.has,ok.cab,ok.hd,ok.frames,ok.stk,ok.exf,ok.bs,ok.bsz,ok.noex,ok.exfs,ok.funs,ok.frf⟩
section
variable {X:Cx}{pins:List (Addr×Obj)}{σ:St}{H:Hp}{s:Shared}{E:Value->Shared->Prop}
theorem Inv.wish(I:Inv X pins σ H s)(E:Value->Shared->Prop):Inv (X.wish E) pins σ H s:=⟨I.ok.wish E,I.os,I.bare,I.base,I.loc,I.cell,I.free,I.freeC,I.pin,I.hok,I.len⟩
theorem Inv.unwish(I:Inv (X.wish E) pins σ H s):Inv X pins σ H s:=⟨I.ok.unwish,I.os,I.bare,I.base,I.loc,I.cell,I.free,I.freeC,I.pin,I.hok,I.len⟩
theorem SP.unwish{D:zgm}{f:Flow}{s':Shared}(h:SP (X.wish E) pins D f s'):SP X pins D f s':=by
 cases f with
 |next=>obtain⟨σ',H',I,q⟩:=h;exact⟨σ',H',I.unwish,q⟩
 |brk=>obtain⟨σ',H',I,q⟩:=h;exact⟨σ',H',I.unwish,q⟩
 |cont=>obtain⟨σ',H',I,q⟩:=h;exact⟨σ',H',I.unwish,q⟩
 |ret u=>obtain⟨v,σ',H',I,r,q⟩:=h;exact⟨v,σ',H',I.unwish,r,q⟩
theorem PSs.nox{st:List Stmt}{t:TS}(h:PSs X.nox st t):PSs X st t:=λpins s σ H D I hw=>
 wpAny_mono (h pins s σ H D (I.wish _) hw) (λ_ _ q=>q.unwish) λ_ _ z=>False.elim z
end
section
variable {X:Cx}{st:Stmt}{rest:List Stmt}{t u:TS}{e:Expr}{te:TE}{pos:Pos}
def zr9:TS:=λD σ H=>D.nx σ H
def ztl(t u:TS):TS:=λD σ H=>t { D with nx:=u D } σ H
theorem zng:PSs X [] zr9:=λ_ _ σ H _ I h=>wpAny_execs_nil ⟨σ,H,I,h⟩
theorem j9(h1:PS X st t)(h2:PSs X rest u):PSs X (st::rest) (ztl t u):=by
 intro pins s σ H D I h;refine wpAny_execs_cons (thn (h1 pins s σ H { D with nx:=u D } I h) λf s1 q=>?_)
 cases f with
 |next=>
  obtain⟨σ',H',I',q⟩:=q;exact h2 pins s1 σ' H' D I' q
 |ret v=>exact q
 |brk=>exact q
 |cont=>exact q
theorem zd2(h1:PS X st t):PSs X [st] t:=by
 intro pins s σ H D I h;refine wpAny_execs_cons (thn (h1 pins s σ H D I h) λf s1 q=>?_)
 cases f with
 |next=>exact wpAny_execs_nil q
 |ret v=>exact q
 |brk=>exact q
 |cont=>exact q
theorem Inv.quiet{pins:List (Addr×Obj)}{σ:St}{H:Hp}{s:Shared}(I:Inv X pins σ H s):interactive X.env=false:=by simp[interactive,I.ok.kind]
def zsa(te:TE):TS:=λD σ H=>te σ H λ_ H1=>D.nx σ H1
theorem znh(he:PE X e te)(hs:swapsWith e none pos.line X.env=pure false:=by rfl):PS X (.Expr e pos) (zsa te):=by
 intro pins s σ H D I h;exact wpAny_Expr_any (thn (he pins s σ H _ I h) λv s1 ⟨x,H1,I1,r1,q1⟩=>⟨σ,H1,I1,q1⟩) I.quiet hs
def ztm(te:TE):TS:=λD σ H=>te σ H D.rt
theorem zbz(he:PE X e te):PS X (.Return (some e) pos) (ztm te):=by
 intro pins s σ H D I h;exact wpAny_Return_some (thn (he pins s σ H _ I h) λv s1 ⟨x,H1,I1,r1,q1⟩=>⟨x,σ,H1,I1,r1,q1⟩)
def ztn(c:TT)(t u:TS):TS:=λD σ H=>c σ H λb H1=>if b=true then t D σ H1 else u D σ H1
theorem zsb{c:Expr}{a b:List Stmt}{tc:TT}(hc:PT X c tc)(ha:PSs X a t)(hb:PSs X b u):PS X (.If c a b pos) (ztn tc t u):=by
 intro pins s σ H D I h;refine wpAny_If (thn (hc pins s σ H _ I h) λd s1 ⟨H1,I1,q1⟩=>?_)
 cases d with
 |true=>exact ha pins s1 σ H1 D I1 q1
 |false=>exact hb pins s1 σ H1 D I1 q1
end
abbrev TG:=V->St->Hp->(St->Hp->Prop)->Prop
abbrev TGs:=List V->St->Hp->(St->Hp->Prop)->Prop
def PG(X:Cx)(target:Expr)(t:TG):Prop :=
 ∀(pins:List (Addr×Obj)) (s:Shared) (σ:St) (H:Hp) (v:V) (u:Value) (Q:St->Hp->Prop),Inv X pins σ H s->RelV v u->t v σ H Q ->
  wpAny (model X.prog X.w) X.A (assign target X.env u) (λ_ s'=>∃σ' H',Inv X pins σ' H' s'/\Q σ' H') X.xe s
def PGs(X:Cx)(ts:List Expr)(t:TGs):Prop :=
 ∀(pins:List (Addr×Obj)) (s:Shared) (σ:St) (H:Hp) (vs:List V) (us:List Value) (Q:St->Hp->Prop),Inv X pins σ H s->Vals vs us->t vs σ H Q ->
  wpAny (model X.prog X.w) X.A (assignInOrder ((assignEach ts X.env).map (·.2)) us) (λ_ s'=>∃σ' H',Inv X pins σ' H' s'/\Q σ' H') X.xe s
abbrev zp0:=V->V->V->Hp->(Hp->Prop)->Prop
def zsc(X:Cx)(t:zp0):Prop :=
 ∀(pins:List (Addr×Obj)) (s:Shared) (σ:St) (H:Hp) (o i v:V) (ov iv u:Value) (Q:Hp->Prop),Inv X pins σ H s->RelV o ov->RelV i iv->RelV v u->t o i v H Q ->
  wpAny (model X.prog X.w) X.A (setItem ov iv u) (λ_ s'=>∃H',Inv X pins σ H' s'/\Q H') X.xe s
section
variable {X:Cx}{pos:Pos}
def zkv(i:Nat):TG:=λv σ H Q=>Q (σ.set i (some v)) H
def zto(to ti:TE)(t:zp0):TG:=λv σ H Q=>to σ H λo H1=>ti σ H1 λi H2=>t o i v H2 λH3=>Q σ H3
theorem zgn{o i:Expr}{to ti:TE}{t:zp0}(ho:PE X o to)(hi:PE X i ti)(hs:zsc X t)
  (ha:∀v,assign (.Subscript o i pos) X.env v=(do
   let ov <-holding [v] (eval o X.env)
   let iv <-holding [v,ov] (eval i X.env)
   standAt pos
   holding [v,ov,iv] (setItem ov iv v)
   release [v,ov,iv] []):=by intro _;rfl):PG X (.Subscript o i pos) (zto to ti t):=by
 intro pins s σ H v u Q I r h;rw[ha];refine wpAny_bind (wpAny_holding (thn (ho pins s σ H _ I h) λov s1 ⟨x,H1,I1,r1,q1⟩=>?_));refine wpAny_bind (wpAny_holding (thn (hi pins s1 σ H1 _ I1 q1) λiv s2 ⟨y,H2,I2,r2,q2⟩=>?_));refine wpAny_bind (wpAny_standAt (wpAny_bind (wpAny_holding (thn (hs pins s2 σ H2 x y v ov iv u _ I2 r1 r2 r q2) λ_ s3 ⟨H3,I3,q3⟩=>?_))));exact wpAny_release ⟨σ,H3,I3,q3⟩
def zni(te:TE)(g:TG):TS:=λD σ H=>te σ H λx H1=>g x σ H1 D.nx
theorem zd3{tg e:Expr}{te:TE}{g:TG}(he:PE X e te)(hg:PG X tg g)(hs:swapsWithSole [tg] e pos.line X.env=pure false:=by rfl)(hw:swappedStores [tg] e X.env=pure none:=by rfl)
  (h1:(assignEach [tg] X.env).map (·.2) = [assign tg X.env]:=by rfl):PS X (.Assign [tg] e pos) (zni te g):=by
 intro pins s σ H D I h;refine wpAny_Assign_stores (thn (he pins s σ H _ I h) λv s1 ⟨x,H1,I1,r1,q1⟩=>?_) hs hw;rw[h1];exact thn (hg pins s1 σ H1 x v _ I1 r1 q1) λ_ s2 q=>q
theorem zd4{i:Nat}{x:Str}{e:Expr}{te:TE}{pos':Pos}(hN:X.N.Nodup)(hi:X.N[i]?=some x)(hx:Loc X.env.scope x)(he:PE X e te)(hs:swapsWith e (some (.Name x pos')) pos.line X.env=pure false:=by rfl)(hf:X.fn x=true\/X.env.scope.names.lookup x=some .local:=by first|exact .inl rfl|exact .inr rfl|assumption):
  PS X (.Assign [.Name x pos'] e pos) (zni te (zkv i)):=by
 intro pins s σ H D I h;refine wpAny_Assign_Name (thn (he pins s σ H _ I h) λv s1 ⟨y,H1,I1,r1,q1⟩=>?_) hs;exact kc I1 hN hi hx r1 (λs2 I2=>⟨_,H1,I2,q1⟩) hf
def ztp(i j:Nat)(ta:TA):TS:=λD σ H=>ta σ H λvs H1=>∃v w,vs = [v,w]/\D.nx ((σ.set i (some v)).set j (some w)) H1
theorem zp1{i j:Nat}{x y:Str}{a b:Expr}{ta:TA}{px py pt:Pos}{kt k2 pt2}(hc:X.calm=true)(hN:X.N.Nodup)(hi:X.N[i]?=some x)(hj:X.N[j]?=some y)(hij:i≠j)
  (hx:X.env.scope.names.lookup x=some .local) (hy:X.env.scope.names.lookup y=some .local) (ha:PA X [a,b] ta)
  (hw:swappedStores [.Tuple [.Name x px,.Name y py] kt pt] (.Tuple [a,b] k2 pt2) X.env=pure (some [x,y]))
  (hs:swapsWithSole [.Tuple [.Name x px,.Name y py] kt pt] (.Tuple [a,b] k2 pt2) pos.line X.env=pure false:=by rfl) :
  PS X (.Assign [.Tuple [.Name x px,.Name y py] kt pt] (.Tuple [a,b] k2 pt2) pos) (ztp i j ta):=by
 intro pins s σ H D I h;rw[exec_Assign_arm];refine wpAny_bind (wpAny_standAt ?_);rw[hs];refine wpAny_bind (wpAny_pure ?_);rw[if_neg (by decide)];refine wpAny_bind (Tuple_ (thn (ha _ pins s σ H _ I h) λus s1 ⟨vs,H1,I1,r1,q1⟩=>?_));obtain⟨v,w,e1,q1⟩:=q1;subst e1;obtain⟨u1,u2,rfl,rv,rw'⟩:∃u1 u2,us = [u1,u2]/\RelV v u1/\RelV w u2:=by
  cases r1 with
  |cons p q=>
   cases q with
   |cons p' q'=>
    cases q';exact⟨_,_,rfl,p,p'⟩
 refine wpAny_newObj_type ?_ (by show 2<=sizeLine;decide);have I2:Inv X pins σ H1 { s1 with heap:=s1.heap.push { cls:=.type "tuple",data:=.seq [u1,u2].toArray } }:=I1.kept (t':=s1.toks) λb o e=>Heap.get?_push_of_some _ e;rw[hw];refine wpAny_bind (wpAny_pure ?_);show wpAny (model X.prog X.w) X.A (do rule "assign.swapped-stores";let items <-unpackItems (.ref s1.heap.objs.size) 2 none;assignInOrder [λv=>bindName X.env y v,λv=>bindName X.env x v] items.reverse;pure Flow.next) _ _ _;refine wpAny_bind (wpAny_rule (wpAny_bind (unpackItems_tuple (items:=#[u1,u2]) (I.ok.hd hc) (IsTup.new s1.heap _) λh' hx'=>?_)));have I3:=I2.kept (h':=h') (t':=s1.toks) λb o e=>hx' b o (Nat.ne_of_lt (Heap.lt_size e)) e;show wpAny _ _ (assignInOrder [λv=>bindName X.env y v,λv=>bindName X.env x v] [u2,u1] >>= λ_=>pure Flow.next) _ _ _;refine wpAny_bind (assignInOrder_cons (wpAny_bindName (kc I3 hN hj (.inl hy) rw' (λs2 I4=>?_) (.inr hy))));refine assignInOrder_cons (wpAny_bindName (kc I4 hN hi (.inl hx) rv (λs3 I5=>assignInOrder_nil (wpAny_pure ?_)) (.inr hx)));rw[List.set_comm _ _ (Ne.symm hij)]at I5;exact⟨_,H1,I5,q1⟩
end
section
variable {X:Cx}{pos:Pos}
end
structure It where
 go:Nat->Hp->Prop
 yld:Nat->Hp->V->Hp->Prop
 stop:Nat->Hp->Prop
def FpOk(X:Cx)(pins:List (Addr×Obj))(H:Hp)(b:Addr):Prop :=
 H b=none/\b≠X.env.locals/\b∉X.fs/\(b∈X.ex\/X.s₀.heap.objs.size<=b)/\(∀x c,X.env.cells.lookup x=some c->c≠b)/\∀p∈X.pn++pins,p.1≠b
theorem Inv.fpOk{X:Cx}{pins:List (Addr×Obj)}{σ:St}{H H':Hp}{s:Shared}{b:Addr}(I:Inv X pins σ H s)(hb:s.heap.objs.size<=b)(hn:H' b=none):FpOk X pins H' b:=by
 refine⟨hn,Nat.ne_of_gt (Nat.lt_of_lt_of_le I.lt hb),I.nofs hb,.inr (Nat.le_trans I.sz hb),λx c e z=>?_,λp hp z=>?_⟩
 ·obtain⟨v,q⟩:=I.cell x c e;exact absurd (Nat.lt_of_lt_of_le q.lt (by rw[z];exact hb)) (Nat.lt_irrefl _)
 ·exact absurd (Nat.lt_of_lt_of_le (Heap.lt_size (I.pin p hp).1) (by rw[z];exact hb)) (Nat.lt_irrefl _)
structure zfh(P:Program)(w:World)(K:PySem.W.Frag)(tg:Expr)(J:It)(fp:List Addr)(it:Addr)(tn:Nat->Heap->Prop):Prop where
 mem:it∈fp
 obj:∀i h,tn i h->∀b∈fp,∃o,h.get? b=some o/\∀v,o.data ≠ .cell v
 keep:∀i h h',tn i h->(∀b∈fp,∀o,h.get? b=some o->h'.get? b=some o)->tn i h'
 item:∀(X:Cx),X.prog=P->X.w=w->X.K=K->X.calm=true->∀(i:Nat) (pins:List (Addr×Obj)) (s:Shared) (σ:St) (H:Hp) (E:Value->Shared->Prop),Inv X pins σ H s->(∀b∈fp,FpOk X pins H b)->tn i s.heap->J.go i H ->
  wpAny (model P w) X.A (pyNext (.ref it)) (λr s1=>∃u,r=some u /\
   wpAny (model P w) X.A (letOwnedTupleGo tg (.ref it) u) (λ_ s2=>∃x H',Inv X pins σ H' s2/\RelV x u/\J.yld i H x H'/\tn (i+1) s2.heap/\∀b∈fp,H' b=none) E s1) E s
 done:∀(X:Cx),X.prog=P->X.w=w->X.K=K->X.calm=true->∀(i:Nat) (pins:List (Addr×Obj)) (s:Shared) (σ:St) (H:Hp) (E:Value->Shared->Prop),Inv X pins σ H s->(∀b∈fp,FpOk X pins H b)->tn i s.heap->J.stop i H ->
  wpAny (model P w) X.A (pyNext (.ref it)) (λr s1=>r=none/\Inv X pins σ H s1) E s
 self:∀(A:Around) (i:Nat) (s:Shared) (Q:Value->Shared->Prop) (E:Value->Shared->Prop),tn i s.heap->Q (.ref it) s->wpAny (model P w) A (pyIter (.ref it)) Q E s
abbrev TI:=St->Hp->(It->Hp->Prop)->Prop
def PIE(X:Cx)(pins:List (Addr×Obj))(σ:St)(tg:Expr)(R:It->Hp->Prop)(itv:Value)(s2:Shared):Prop :=
 ∃(it:Addr) (fp:List Addr) (tn:Nat->Heap->Prop) (J:It) (H':Hp),itv=.ref it/\Inv X pins σ H' s2/\zfh X.prog X.w X.K tg J fp it tn/\tn 0 s2.heap/\(∀b∈fp,FpOk X pins H' b)/\R J H'
def PI(X:Cx)(tg iter:Expr)(wi:TI):Prop :=
 ∀(pins:List (Addr×Obj)) (s:Shared) (σ:St) (H:Hp) (R:It->Hp->Prop),Inv X pins σ H s->wi σ H R ->
  wpAny (model X.prog X.w) X.A (eval iter X.env) (λv s1=>wpAny (model X.prog X.w) X.A (pyIter v) (PIE X pins σ tg R) X.xe s1) X.xe s
theorem zkw{M:Model}{A:Around}{E:Value->Shared->Prop}{s:Shared}{tg:Expr}{it:Addr}{u:Value}{o:Obj}{n:String}{vs:Array Value}{Q:Unit->Shared->Prop}(ho:s.heap.get? it=some o)(hc:o.cls=.type n)(hd:o.data=.fields vs)
  (hn : ["enumerate", "zip", "dict_itemiterator", "dict_reverseitemiterator", "odict_iterator", "itertools.zip_longest", "itertools.pairwise"].contains n=false) (hQ:Q () s):wpAny M A (letOwnedTupleGo tg (.ref it) u) Q E s:=by
 unfold letOwnedTupleGo
 cases tg <;> first
  |exact wpAny_pure hQ
  |(cases u <;> first
    |exact wpAny_pure hQ
    |(refine wpAny_bind (wpAny_load ho ?_);rw[hc,hd];show wpAny M A (if (["enumerate", "zip", "dict_itemiterator", "dict_reverseitemiterator", "odict_iterator", "itertools.zip_longest", "itertools.pairwise"].contains n && vs[0]? == some (rawInt _))=true then _ else _) Q E s;rw[if_neg (by intro h;rw[hn,Bool.false_and]at h;cases h)];exact wpAny_pure hQ))
def Itl(K:PySem.W.Frag)(a:Addr):It :=
 ⟨λi H=>∃xs x,SqL K H a xs/\xs[i]?=some x,λi H x H'=>H'=H/\∀xs,SqL K H a xs->xs[i]?=some x,λi H=>∃xs,SqL K H a xs/\xs.length<=i⟩
def Itt(K:PySem.W.Frag)(a:Addr):It :=
 ⟨λi H=>∃xs x,SqT K H a xs/\xs[i]?=some x,λi H x H'=>H'=H/\∀xs,SqT K H a xs->xs[i]?=some x,λi H=>∃xs,SqT K H a xs/\xs.length<=i⟩
def Itr(lo:Int)(n:Nat):It:=⟨λi _=>i<n,λi H x H'=>H'=H/\x=.int (lo+i),λi _=>n<=i⟩
theorem zjg{P:Program}{w:World}{K:PySem.W.Frag}{tg:Expr}(a it:Addr):zfh P w K tg (Itl K a) [it] it (λi h=>h.IsListIter it a i) where
 mem:=by simp
 obj:=λi h st b hb=>by
  have e:b=it:=by simpa using hb
  subst e;obtain⟨o,e,c,d⟩:=st;exact⟨o,e,λv z=>by rw[d]at z;cases z⟩
 keep:=λi h h' st k=>st.at λo e=>k it (by simp) o e
 item:=by
  intro X hP hw hK hc i pins s σ H E I hf st hg;subst hP hw hK;obtain⟨xs,x,hq,hx⟩:=hg;obtain⟨its,rv,p,hz⟩:=I.list hq;obtain⟨u,hu,ru⟩:=rv.get hx;obtain⟨f0,f1,f2,f3,f4,f5⟩:=hf it (by simp);refine wpAny_pyNext_list_item st p.isList (x:=u) (by simpa using hu) λh' st' sb=>?_;have I1:Inv X pins σ H { s with heap:=h' }:=I.turned (t':=s.toks) (λb o hb e=>(sb.2 b hb).trans e) f0 f1 f3 f4 f5;obtain⟨o,e,c,d⟩:=id st';exact⟨u,rfl,zkw (s:={ s with heap:=h' }) e c d (by decide) ⟨x,H,I1,ru,⟨rfl,λys hy=>by rw[I.list_inj hy hq];exact hx⟩,st',λb hb=>(hf b hb).1⟩⟩
 done:=by
  intro X hP hw hK hc i pins s σ H E I hf st hg;subst hP hw hK;obtain⟨xs,hq,hx⟩:=hg;obtain⟨its,rv,p,hz⟩:=I.list hq;obtain⟨f0,f1,f2,f3,f4,f5⟩:=hf it (by simp);have hl:=rv.length;exact wpAny_pyNext_list_end (I.ok.hd hc) st p.isList (by simp;omega) λh' eb=>⟨rfl,I.turned (t':=s.toks) (λb o hb e=>eb b o hb e) f0 f1 f3 f4 f5⟩
 self:=λ_ _ _ _ _ st h=>wpAny_pyIter_listiter st h
theorem zgo{P:Program}{w:World}{K:PySem.W.Frag}{tg:Expr}(a it:Addr):zfh P w K tg (Itt K a) [it] it (λi h=>h.IsTupleIter it a i) where
 mem:=by simp
 obj:=λi h st b hb=>by
  have e:b=it:=by simpa using hb
  subst e;obtain⟨o,e,c,d⟩:=st;exact⟨o,e,λv z=>by rw[d]at z;cases z⟩
 keep:=λi h h' st k=>st.at λo e=>k it (by simp) o e
 item:=by
  intro X hP hw hK hc i pins s σ H E I hf st hg;subst hP hw hK;obtain⟨xs,x,hq,hx⟩:=hg;obtain⟨its,rv,p,hz⟩:=I.tuple hq;obtain⟨u,hu,ru⟩:=rv.get hx;obtain⟨f0,f1,f2,f3,f4,f5⟩:=hf it (by simp);refine wpAny_pyNext_tuple_item st (show s.heap.IsTuple a its.toArray from p) (x:=u) (by simpa using hu) λh' st' sb=>?_;have I1:Inv X pins σ H { s with heap:=h' }:=I.turned (t':=s.toks) (λb o hb e=>(sb.2 b hb).trans e) f0 f1 f3 f4 f5;obtain⟨o,e,c,d⟩:=id st';exact⟨u,rfl,zkw (s:={ s with heap:=h' }) e c d (by decide) ⟨x,H,I1,ru,⟨rfl,λys hy=>by rw[I.tuple_inj hy hq];exact hx⟩,st',λb hb=>(hf b hb).1⟩⟩
 done:=by
  intro X hP hw hK hc i pins s σ H E I hf st hg;subst hP hw hK;obtain⟨xs,hq,hx⟩:=hg;obtain⟨its,rv,p,hz⟩:=I.tuple hq;obtain⟨f0,f1,f2,f3,f4,f5⟩:=hf it (by simp);have hl:=rv.length;exact wpAny_pyNext_tuple_end (I.ok.hd hc) st (show s.heap.IsTuple a its.toArray from p) (by simp;omega) λh' eb=>⟨rfl,I.turned (t':=s.toks) (λb o hb e=>eb b o hb e) f0 f1 f3 f4 f5⟩
 self:=λ_ _ _ _ _ st h=>wpAny_pyIter_tupleiter st h
theorem zgp{P:Program}{w:World}{K:PySem.W.Frag}{tg:Expr}(it:Addr)(lo:Int)(n:Nat):zfh P w K tg (Itr lo n) [it] it (λi h=>IsRangeIter h it (lo+(i:Nat) * 1) ((n:Int)-(i:Nat)) 1) where
 mem:=by simp
 obj:=λi h st b hb=>by
  have e:b=it:=by simpa using hb
  subst e;exact⟨_,st,λv z=>by
   have z':Data.fields _=Data.cell v:=z
   cases z'⟩
 keep:=λi h h' st k=>k it (by simp) _ st
 item:=by
  intro X hP hw hK hc i pins s σ H E I hf st hg;subst hP hw hK;obtain⟨f0,f1,f2,f3,f4,f5⟩:=hf it (by simp);have W:=Walks.range (prog:=X.prog) (w:=X.w) (I.ok.hd hc) it lo 1 n;refine W.item i s _ _ hg st λv h' tk hv st' kk=>?_;obtain⟨t,rfl⟩:=hv;have I1:Inv X pins σ H { s with heap:=h',toks:=tk }:=I.turned (λb o hb e=>kk b o (by simpa using hb) e) f0 f1 f3 f4 f5;refine⟨_,rfl,zkw (s:={ s with heap:=h',toks:=tk }) (n := "range_iterator") st' rfl rfl (by decide) ⟨.int (lo+i),H,I1,⟨t,?_⟩,⟨rfl,rfl⟩,st',λb hb=>(hf b hb).1⟩⟩;rw[Int.mul_one]
 done:=by
  intro X hP hw hK hc i pins s σ H E I hf st hg;subst hP hw hK;obtain⟨f0,f1,f2,f3,f4,f5⟩:=hf it (by simp);exact wpAny_pyNext_range_end (I.ok.hd hc) st (by have:n<=i:=hg;omega) λh' eb=>⟨rfl,I.turned (t':=s.toks) (λb o hb e=>eb b o hb e) f0 f1 f3 f4 f5⟩
 self:=λ_ _ _ _ _ st h=>wpAny_pyIter_rangeiter st h
section
variable {X:Cx}{tg:Expr}
theorem zkx{pins:List (Addr×Obj)}{σ:St}{H:Hp}{s:Shared}{R:It->Hp->Prop}{E:Value->Shared->Prop}{lo hi:Int}{t u v:Tok}{tk:Nat}(I:Inv X pins σ H s)(h1 : -(2 ^ 62)<=lo)(h2:lo<2 ^ 62)(h3 : -(2 ^ 62)<=hi)(h4:hi<2 ^ 62)
  (q:R (Itr lo (hi-lo).toNat) H):wpAny (model X.prog X.w) X.A (pyIter (.ref s.heap.objs.size)) (PIE X pins σ tg R) E { s with heap:=s.heap.push { cls:=.type "range",data:=.fields #[.int lo t,.int hi u,.int 1 v] },toks:=tk }:=by
 refine wpAny_pyIter_range (IsRange.new ..) (small_one h1 h2 h3 h4) ?_;have I1:Inv X pins σ H { s with heap:=s.heap.push { cls:=.type "range",data:=.fields #[.int lo t,.int hi u,.int 1 v] },toks:=tk }:=I.kept λb o e=>Heap.get?_push_of_some _ e;refine⟨(s.heap.push { cls:=.type "range",data:=.fields #[.int lo t,.int hi u,.int 1 v] }).objs.size,[(s.heap.push { cls:=.type "range",data:=.fields #[.int lo t,.int hi u,.int 1 v] }).objs.size],_,_,H,rfl,
  I1.kept (t':=tk) λb o e=>Heap.get?_push_of_some _ e,zgp _ lo (hi-lo).toNat,?_,λb hb=>?_,q⟩
 ·have e1:lo+((0:Nat):Int) * 1=lo:=by simp
  have e2:(((hi-lo).toNat:Nat):Int)-((0:Nat):Int)=Builtin.Range.rangeSize lo hi 1:=by rw[rangeSize_one];split <;> omega
  show IsRangeIter _ _ (lo+((0:Nat):Int) * 1) ((((hi-lo).toNat:Nat):Int)-((0:Nat):Int)) 1;rw[e1,e2];exact Heap.get?_push_size _ rfl
 ·have e:b=(s.heap.push { cls:=.type "range",data:=.fields #[.int lo t,.int hi u,.int 1 v] }).objs.size:=by simpa using hb
  subst e;exact I1.fpOk (Nat.le_refl _) (I1.hok.fresh (Nat.le_refl _))
def zsd(ta:TA):TI:=λσ H R=>ta σ H λvs H1=>∃j:Int,vs = [.int j]/\-(2 ^ 62)<=j/\j<2 ^ 62/\R (Itr 0 j.toNat) H1
theorem zjh{a:Expr}{ta:TA}{p pos:Pos}(hg:Gl X "range")(hm:X.mg "range" = none)(ha:PA X [a] ta)(hs:starEach [a] X.env = [(false,eval a X.env)]:=by rfl):PI X tg (.Call (.Name "range" p) [a] [] pos) (zsd ta):=by
 intro pins s σ H R I h;refine Call_ (jo I hg hm boot_range (PyProof.Rows.callWith_type1 (thn (ha pos pins s σ H _ I h) λus s1 ⟨vs,H1,I1,r1,q1⟩=>?_) hs rfl));obtain⟨j,e,q1,q2,q⟩:=q1;subst e
 cases r1 with
 |cons r rr=>
  cases rr;obtain⟨t,rfl⟩:=r;exact call_range_1 (zkx I1 (by omega) (by omega) q1 q2 (by simpa using q))
def ztq(wi:TI)(g:TG)(tb:TS):TS:=λD σ H=>wi σ H λJ H1=>∃W:Nat->Nat->St->Hp->Prop,(∃m,W 0 m σ H1)/\∀i m σ H,W i m σ H ->
 (J.stop i H/\D.nx σ H)\/(J.go i H/\∃N:St->Hp->Prop,(∀σ' H',N σ' H'->∃m',m' < m/\W (i+1) m' σ' H')/\∀x H',J.yld i H x H'->g x σ H' λσ2 H2=>tb { D with nx:=N,ct:=N,bk:=D.nx } σ2 H2)
def jq(fp:List Addr)(h:Heap):List (Addr×Obj):=fp.filterMap λb=>(h.get? b).map λo=>(b,o)
theorem xj{fp:List Addr}{h:Heap}{b:Addr}{o:Obj}(hb:b∈fp)(e:h.get? b=some o):(b,o)∈jq fp h:=List.mem_filterMap.mpr ⟨b,hb,by rw[e];rfl⟩
theorem zji{fp:List Addr}{h:Heap}{p:Addr×Obj}(hp:p∈jq fp h):p.1∈fp/\h.get? p.1=some p.2:=by
 obtain⟨b,hb,e⟩:=List.mem_filterMap.mp hp
 cases q:h.get? b with
 |none=>rw[q]at e;cases e
 |some o=>
  rw[q]at e;have e':(b,o)=p:=Option.some.inj e;subst e';exact⟨hb,q⟩
theorem Inv.pinned{pins:List (Addr×Obj)}{σ:St}{H:Hp}{s:Shared}{fp:List Addr}(I:Inv X pins σ H s)(hf:∀b∈fp,FpOk X pins H b)(ho:∀b∈fp,∃o,s.heap.get? b=some o/\∀v,o.data ≠ .cell v):Inv X (pins++jq fp s.heap) σ H s :=
 I.pins_of λp hp=>(List.mem_append.mp hp).elim (λz=>I.pin p (List.mem_append_right _ z)) λz=>by
  obtain⟨hb,e⟩:=zji z;obtain⟨f0,f1,f2,_⟩:=hf p.1 hb;obtain⟨o,e',d⟩:=ho p.1 hb;rw[e]at e';cases e';exact⟨e,f0,f1,f2,d⟩
theorem Inv.unpinned{pins pl:List (Addr×Obj)}{σ:St}{H:Hp}{s:Shared}(I:Inv X (pins++pl) σ H s):Inv X pins σ H s:=I.pins_of λp hp=>I.pin p (List.mem_append_right _ (List.mem_append_left _ hp))
theorem zp2{iter:Expr}{body:List Stmt}{wi:TI}{g:TG}{tb:TS}{pos:Pos}(hp:PassesOwn (model X.prog X.w) X.A X.env X.xe)(hc:X.calm=true)(hi:PI X tg iter wi)(hg:PG X tg g)(hb:PSs X body tb)
  (hs:∀x,foldedSetIterable iter X.env x=pure x:=by intro _;rfl):PS X (.For tg iter body [] pos) (ztq wi g tb):=by
 intro pins s σ H D I h;refine wpAny_For (thn (hi pins s σ H _ I h) λv s1 h1=>thn h1 λitv s2 h2=>?_) hs;obtain⟨it,fp,tn,J,H2,e,I2,T,st2,f2,W,⟨m0,w0⟩,turn⟩:=h2;subst e
 -- what stays true of the iterator's objects through the loop
 have stat:∀{H':Hp},(∀b∈fp,H' b=none)->∀b∈fp,FpOk X pins H' b:=λhn b hb=>⟨hn b hb,(f2 b hb).2⟩
 refine codeAny_forLoop_any (λn s'=>∃i σ' H',Inv X pins σ' H' s'/\tn i s'.heap/\(∀b∈fp,H' b=none)/\W i n σ' H') ?_ m0 ⟨0,σ,H2,I2,st2,λb hb=>(f2 b hb).1,w0⟩;rintro n s3 ⟨i,σ3,H3,I3,st3,fr3,w3⟩;rcases turn i n σ3 H3 w3 with⟨stop,qn⟩ |⟨go,N,hN,step⟩
 ·refine wpAny_passesOwn hp (thn (T.done X rfl rfl rfl hc i pins s3 σ3 H3 X.xe I3 (stat fr3) st3 stop) λr s4 ⟨hr,I4⟩=>?_);subst hr;exact wpAny_execs_nil ⟨σ3,H3,I4,qn⟩
 ·refine wpAny_passesOwn hp (thn (T.item X rfl rfl rfl hc i pins s3 σ3 H3 X.xe I3 (stat fr3) st3 go) λr s4 ⟨u,hr,h4⟩=>?_);subst hr;refine wpAny_passesOwn hp (thn h4 λ_ s5 ⟨x,H5,I5,r5,y5,st5,fr5⟩=>?_);have I5':=I5.pinned (stat fr5) (T.obj _ _ st5);refine wpAny_passesOwn hp (thn (hg _ s5 σ3 H5 x u _ I5' r5 (step x H5 y5)) λ_ s6 ⟨σ6,H6,I6,q6⟩=>?_);refine wpAny_passesOwn hp (thn (hb _ s6 σ6 H6 _ I6 q6) λf s7 q7=>?_)
  have again:∀{σ7:St}{H7:Hp},Inv X (pins++jq fp s5.heap) σ7 H7 s7->N σ7 H7->∃m,m<n/\∃i σ' H',Inv X pins σ' H' s7/\tn i s7.heap/\(∀b∈fp,H' b=none)/\W i m σ' H':=λ{σ7 H7} I7 n7=>by
   obtain⟨m',hm,w7⟩:=hN σ7 H7 n7;refine⟨m',hm,i+1,σ7,H7,I7.unpinned,T.keep _ _ _ st5 λb hb o e=>(I7.pin (b,o) (List.mem_append_right _ (List.mem_append_right _ (xj hb e)))).1,λb hb=>?_,w7⟩;obtain⟨o,e,d⟩:=T.obj _ _ st5 b hb;exact(I7.pin (b,o) (List.mem_append_right _ (List.mem_append_right _ (xj hb e)))).2.1
  cases f with
  |next=>obtain⟨σ7,H7,I7,n7⟩:=q7;exact again I7 n7
  |cont=>obtain⟨σ7,H7,I7,n7⟩:=q7;exact again I7 n7
  |brk=>obtain⟨σ7,H7,I7,q7⟩:=q7;exact⟨σ7,H7,I7.unpinned,q7⟩
  |ret v=>obtain⟨x7,σ7,H7,I7,r7,q7⟩:=q7;exact⟨x7,σ7,H7,I7.unpinned,r7,q7⟩
end
abbrev R2:=V->V->Hp->VK->Prop
def OpR(X:Cx)(f:Value->Value->Sem Value)(r:R2):Prop :=
 ∀(pins:List (Addr×Obj)) (s:Shared) (σ:St) (H:Hp) (x y:V) (v u:Value) (Q:VK),Inv X pins σ H s->RelV x v->RelV y u->r x y H Q ->
  wpAny (model X.prog X.w) X.A (f v u) (EP X pins σ Q) X.xe s
def UnR(X:Cx)(f:Value->Sem Value)(r:V->Hp->VK->Prop):Prop :=
 ∀(pins:List (Addr×Obj)) (s:Shared) (σ:St) (H:Hp) (x:V) (v:Value) (Q:VK),Inv X pins σ H s->RelV x v->r x H Q ->
  wpAny (model X.prog X.w) X.A (f v) (EP X pins σ Q) X.xe s
def wy(X:Cx)(f:Value)(r:List V->Hp->VK->Prop):Prop :=
 ∀(pins:List (Addr×Obj)) (s:Shared) (σ:St) (H:Hp) (xs:List V) (us:List Value) (Q:VK),Inv X pins σ H s->Vals xs us->r xs H Q ->
  wpAny (model X.prog X.w) X.A (call f us) (EP X pins σ Q) X.xe s
def ztr(X:Cx)(r:V->Hp->(Bool->Hp->Prop)->Prop):Prop :=
 ∀(pins:List (Addr×Obj)) (s:Shared) (σ:St) (H:Hp) (x:V) (v:Value) (Q:Bool->Hp->Prop),Inv X pins σ H s->RelV x v->r x H Q ->
  wpAny (model X.prog X.w) X.A (truthy v) (TP X pins σ Q) X.xe s
def tOp(r:R2)(ta tb:TE):TE:=λσ H Q=>ta σ H λx H1=>tb σ H1 λy H2=>r x y H2 Q
def tUn(r:V->Hp->VK->Prop)(ta:TE):TE:=λσ H Q=>ta σ H λx H1=>r x H1 Q
def rI(C:Int->Int->Prop)(g:Int->Int->V):R2:=λx y H Q=>∃i j,x=.int i/\y=.int j/\C i j/\Q (g i j) H
def rI0(g:Int->Int->V):R2:=λx y H Q=>∃i j,x=.int i/\y=.int j/\Q (g i j) H
def rU(g:Int->V):V->Hp->VK->Prop:=λx H Q=>∃i,x=.int i/\Q (g i) H
section
variable {X:Cx}{a b c:Expr}{ta tb tc:TE}{pos:Pos}
theorem zse(ha:PE X a ta)(hb:PE X b tb){pins:List (Addr×Obj)}{s:Shared}{σ:St}{H:Hp}{R:V->V->Hp->Prop}(I:Inv X pins σ H s)
  (h:ta σ H λx H1=>tb σ H1 λy H2=>R x y H2) {Q:Value->Shared->Prop}{f:Value->Value->Sem Value}
  (hf:∀v u s2 x y H2,Inv X pins σ H2 s2->RelV x v->RelV y u->R x y H2->wpAny (model X.prog X.w) X.A (f v u) Q X.xe s2) :
  wpAny (model X.prog X.w) X.A (eval a X.env) (λv s₁=>wpAny (model X.prog X.w) X.A (eval b X.env) (λu s₂=>wpAny (model X.prog X.w) X.A (f v u) Q X.xe s₂) X.xe s₁) X.xe s:=by
 refine thn (ha pins s σ H _ I h) λv s1 ⟨x,H1,I1,r1,q1⟩=>?_;refine thn (hb pins s1 σ H1 _ I1 q1) λu s2 ⟨y,H2,I2,r2,q2⟩=>?_;exact hf v u s2 x y H2 I2 r1 r2 q2
theorem zfi{op:Operator}{r:R2}(ho:OpR X (binaryOp op) r)(ha:PE X a ta)(hb:PE X b tb):PE X (.BinOp a op b pos) (tOp r ta tb):=by
 intro pins s σ H Q I h;exact wpAny_BinOp (zse ha hb I h λv u s2 x y H2 I2 rx ry q=>ho pins s2 σ H2 x y v u Q I2 rx ry q)
theorem zsf{op:UnaryOp}{r:V->Hp->VK->Prop}(ho:UnR X (unaryOp op) r)(ha:PE X a ta):PE X (.UnaryOp op a pos) (tUn r ta):=by
 intro pins s σ H Q I h;exact UnaryOp_ (thn (ha pins s σ H _ I h) λv s1 ⟨x,H1,I1,r1,q1⟩=>ho pins s1 σ H1 x v Q I1 r1 q1)
theorem opI{f:Value->Value->Sem Value}{C:Int->Int->Prop}{g:Int->Int->Int}
  (rule:∀(i j:Int) (t u:Tok) (s:Shared) (Q:Value->Shared->Prop) (E:Value->Shared->Prop),C i j->Q (.int (g i j) s.toks) { s with toks:=s.toks+1 }->wpAny (model X.prog X.w) X.A (f (.int i t) (.int j u)) Q E s) :
  OpR X f (rI C λi j=>.int (g i j)):=by
 intro pins s σ H x y v u Q I rx ry h;obtain⟨i,j,rfl,rfl,hc,q⟩:=h;obtain⟨t,rfl⟩:=rx;obtain⟨t',rfl⟩:=ry;exact rule i j t t' s _ _ hc ⟨.int (g i j),H,I.tok _,⟨_,rfl⟩,q⟩
theorem zsg{f:Value->Value->Sem Value}{g:Int->Int->Int}
  (rule:∀(i j:Int) (t u:Tok) (s:Shared) (Q:Value->Shared->Prop) (E:Value->Shared->Prop),Q (.int (g i j) s.toks) { s with toks:=s.toks+1 }->wpAny (model X.prog X.w) X.A (f (.int i t) (.int j u)) Q E s) :
  OpR X f (rI0 λi j=>.int (g i j)):=by
 intro pins s σ H x y v u Q I rx ry h;obtain⟨i,j,rfl,rfl,q⟩:=h;obtain⟨t,rfl⟩:=rx;obtain⟨t',rfl⟩:=ry;exact rule i j t t' s _ _ ⟨.int (g i j),H,I.tok _,⟨_,rfl⟩,q⟩
theorem znj{f:Value->Value->Sem Value}{g:Int->Int->Bool}
  (rule:∀(i j:Int) (t u:Tok) (s:Shared) (Q:Value->Shared->Prop) (E:Value->Shared->Prop),Q (.bool (g i j)) s->wpAny (model X.prog X.w) X.A (f (.int i t) (.int j u)) Q E s) :
  OpR X f (rI0 λi j=>.bl (g i j)):=by
 intro pins s σ H x y v u Q I rx ry h;obtain⟨i,j,rfl,rfl,q⟩:=h;obtain⟨t,rfl⟩:=rx;obtain⟨t',rfl⟩:=ry;exact rule i j t t' s _ _ ⟨.bl (g i j),H,I,rfl,q⟩
def znk(i j:Int):Prop:=0<=j/\j<=1000000/\i.natAbs<2 ^ 64
def CMul(i j:Int):Prop:=(-(2 ^ 64)<i/\i<2 ^ 64)\/(-(2 ^ 64)<j/\j<2 ^ 64)
theorem CMul.ok{i j:Int}(h:CMul i j):IntMulOk i j:=by
 rcases h with⟨h1,h2⟩ |⟨h1,h2⟩
 ·exact .of_left (intBits_le_64 h1 h2)
 ·exact .of_right (intBits_le_64 h1 h2)
theorem zky:OpR X (binaryOp .Add) (rI0 λi j=>.int (i+j)):=zsg λ_ _ _ _ _ _ _ q=>add_int q
theorem zp3:OpR X (binaryOp .Sub) (rI0 λi j=>.int (i-j)):=zsg λ_ _ _ _ _ _ _ q=>sub_int q
theorem zp4:OpR X (binaryOp .Mult) (rI CMul λi j=>.int (i * j)):=opI λ_ _ _ _ _ _ _ hc q=>mul_int q hc.ok
theorem zgq:OpR X (binaryOp .Mod) (rI (λ_ j=>0<j) λi j=>.int (i % j)):=opI λi j _ _ _ _ _ hc q=>by
 have h1:(0:Int)<j:=hc;exact mod_int' (by omega) (by rw[Int.fmod_eq_emod_of_nonneg i (by omega)];exact q)
theorem zp5:OpR X (binaryOp .Pow) (rI znk λi j=>.int (i ^ j.toNat)):=opI λ_ _ _ _ _ _ _ hc q=>pow_int_small hc.1 hc.2.1 hc.2.2 q
theorem unI{f:Value->Sem Value}{g:Int->Int}
  (rule:∀(i:Int) (t:Tok) (s:Shared) (Q:Value->Shared->Prop) (E:Value->Shared->Prop),Q (.int (g i) s.toks) { s with toks:=s.toks+1 }->wpAny (model X.prog X.w) X.A (f (.int i t)) Q E s) :
  UnR X f (rU λi=>.int (g i)):=by
 intro pins s σ H x v Q I rx h;obtain⟨i,rfl,q⟩:=h;obtain⟨t,rfl⟩:=rx;exact rule i t s _ _ ⟨.int (g i),H,I.tok _,⟨_,rfl⟩,q⟩
theorem zp6:UnR X (unaryOp .USub) (rU λi=>.int (-i)):=unI λ_ _ _ _ _ q=>neg_int q
end
def zp7:V->V->Bool
 |.non,.non=>true|.non,.int _=>true|.int _,.non=>true|.non,.bl _=>true|.bl _,.non=>true|.non,.str _=>true|.str _,.non=>true
 |.int _,.int _=>true|.bl _,.bl _=>true|.str _,.str _=>true|.byt _,.byt _=>true
 |.int _,.str _=>true|.str _,.int _=>true|.bl _,.str _=>true|.str _,.bl _=>true
 |_,_=>false
def rEq:R2:=λx y H Q=>zp7 x y=true/\Q (.bl (decide (x=y))) H
def rNe:R2:=λx y H Q=>zp7 x y=true/\Q (.bl (!decide (x=y))) H
theorem zh1{i j:Int}:decide (V.int i=V.int j)=(i == j):=by
 rw[Bool.eq_iff_iff];simp
theorem zkz{i j:Bool}:decide (V.bl i=V.bl j)=(i == j):=by
 rw[Bool.eq_iff_iff];simp
theorem zh2{i j:Str}:decide (V.str i=V.str j)=(i == j):=by
 rw[Bool.eq_iff_iff];simp
theorem zh3{i j:Array UInt8}:decide (V.byt i=V.byt j)=(i.toList == j.toList):=by
 rw[Bool.eq_iff_iff]
 cases i
 cases j;simp
section
variable {X:Cx}{a b c:Expr}{ta tb tc:TE}{pos:Pos}
theorem yj{pins:List (Addr×Obj)}{σ:St}{H:Hp}{s:Shared}{Q:VK}{k k':Bool}(I:Inv X pins σ H s)(q:Q (.bl k) H)(e:k=k'):EP X pins σ Q (.bool k') s:=by
 subst e;exact⟨.bl k,H,I,rfl,q⟩
theorem zk0:OpR X (compareOp .Eq) rEq:=by
 intro pins s σ H x y v u Q I rx ry h;obtain⟨hs,q⟩:=h
 cases x with
 |non=>
  cases rx
  cases y with
  |non=>cases ry;exact PySem.EqNone.eq_none_none (yj I q (by simp))
  |bl j=>cases ry;exact PySem.EqNone.eq_none_bool (yj I q (by simp))
  |int j=>obtain⟨t',rfl⟩:=ry;exact PySem.EqNone.eq_none_int (yj I q (by simp))
  |str j=>obtain⟨t',rfl⟩:=ry;exact PySem.EqNone.eq_none_str (yj I q (by simp))
  |_=>exact absurd (show false=true from hs) Bool.false_ne_true
 |bl i=>
  cases rx
  cases y with
  |non=>cases ry;exact PySem.EqNone.eq_bool_none (yj I q (by simp))
  |bl j=>cases ry;exact eq_bool (yj I q zkz)
  |str j=>obtain⟨t',rfl⟩:=ry;exact PySem.EqMixed.eq_bool_str (yj I q (by simp))
  |_=>exact absurd (show false=true from hs) Bool.false_ne_true
 |int i=>
  obtain⟨t,rfl⟩:=rx
  cases y with
  |non=>cases ry;exact PySem.EqNone.eq_int_none (yj I q (by simp))
  |int j=>obtain⟨t',rfl⟩:=ry;exact eq_int (yj I q zh1)
  |str j=>obtain⟨t',rfl⟩:=ry;exact PySem.EqMixed.eq_int_str (yj I q (by simp))
  |_=>exact absurd (show false=true from hs) Bool.false_ne_true
 |str i=>
  obtain⟨t,rfl⟩:=rx
  cases y with
  |non=>cases ry;exact PySem.EqNone.eq_str_none (yj I q (by simp))
  |bl j=>cases ry;exact PySem.EqMixed.eq_str_bool (yj I q (by simp))
  |int j=>obtain⟨t',rfl⟩:=ry;exact PySem.EqMixed.eq_str_int (yj I q (by simp))
  |str j=>obtain⟨t',rfl⟩:=ry;exact eq_str (yj I q zh2)
  |_=>exact absurd (show false=true from hs) Bool.false_ne_true
 |byt i=>
  obtain⟨t,rfl⟩:=rx
  cases y with
  |byt j=>obtain⟨t',rfl⟩:=ry;exact PySem.W.eq_bytes (yj I q zh3)
  |_=>exact absurd (show false=true from hs) Bool.false_ne_true
 |_=>cases y <;> exact absurd (show false=true from hs) Bool.false_ne_true
theorem zo3:OpR X (compareOp .NotEq) rNe:=by
 intro pins s σ H x y v u Q I rx ry h;obtain⟨hs,q⟩:=h
 cases x with
 |non=>
  cases rx
  cases y with
  |non=>cases ry;exact PySem.EqNone.ne_none_none (yj I q (by simp))
  |bl j=>cases ry;exact PySem.EqNone.ne_none_bool (yj I q (by simp))
  |int j=>obtain⟨t',rfl⟩:=ry;exact PySem.EqNone.ne_none_int (yj I q (by simp))
  |str j=>obtain⟨t',rfl⟩:=ry;exact PySem.EqNone.ne_none_str (yj I q (by simp))
  |_=>exact absurd (show false=true from hs) Bool.false_ne_true
 |bl i=>
  cases rx
  cases y with
  |non=>cases ry;exact PySem.EqNone.ne_bool_none (yj I q (by simp))
  |bl j=>cases ry;exact ne_bool (yj I q (congrArg not zkz))
  |str j=>obtain⟨t',rfl⟩:=ry;exact PySem.EqMixed.ne_bool_str (yj I q (by simp))
  |_=>exact absurd (show false=true from hs) Bool.false_ne_true
 |int i=>
  obtain⟨t,rfl⟩:=rx
  cases y with
  |non=>cases ry;exact PySem.EqNone.ne_int_none (yj I q (by simp))
  |int j=>obtain⟨t',rfl⟩:=ry;exact ne_int (yj I q (congrArg not zh1))
  |str j=>obtain⟨t',rfl⟩:=ry;exact PySem.EqMixed.ne_int_str (yj I q (by simp))
  |_=>exact absurd (show false=true from hs) Bool.false_ne_true
 |str i=>
  obtain⟨t,rfl⟩:=rx
  cases y with
  |non=>cases ry;exact PySem.EqNone.ne_str_none (yj I q (by simp))
  |bl j=>cases ry;exact PySem.EqMixed.ne_str_bool (yj I q (by simp))
  |int j=>obtain⟨t',rfl⟩:=ry;exact PySem.EqMixed.ne_str_int (yj I q (by simp))
  |str j=>obtain⟨t',rfl⟩:=ry;exact ne_str (yj I q (congrArg not zh2))
  |_=>exact absurd (show false=true from hs) Bool.false_ne_true
 |byt i=>
  obtain⟨t,rfl⟩:=rx
  cases y with
  |byt j=>obtain⟨t',rfl⟩:=ry;exact PySem.W.ne_bytes (yj I q (congrArg not zh3))
  |_=>exact absurd (show false=true from hs) Bool.false_ne_true
 |_=>cases y <;> exact absurd (show false=true from hs) Bool.false_ne_true
theorem zsh:OpR X (compareOp .Lt) (rI0 λi j=>.bl (decide (i<j))):=znj λ_ _ _ _ _ _ _ q=>lt_int q
theorem zsi:OpR X (compareOp .LtE) (rI0 λi j=>.bl (decide (i<=j))):=znj λ_ _ _ _ _ _ _ q=>le_int q
theorem zo4:OpR X (compareOp .Gt) (rI0 λi j=>.bl (decide (j<i))):=znj λ_ _ _ _ _ _ _ q=>gt_int q
theorem zsj:OpR X (compareOp .GtE) (rI0 λi j=>.bl (decide (j<=i))):=znj λ_ _ _ _ _ _ _ q=>ge_int q
theorem zx(b:Expr){op:CmpOp}(h:op ≠ .In:=by decide)(h2:op ≠ .NotIn:=by decide):behindInMarks op b=false:=by
 have e1:(op == CmpOp.In)=false:=by cases op <;> first|rfl|exact absurd rfl h
 have e2:(op == CmpOp.NotIn)=false:=by cases op <;> first|rfl|exact absurd rfl h2
 cases b <;> simp[behindInMarks,e1,e2]
def zsk(t:TE):TT:=λσ H Q=>t σ H λx H'=>∃k,x=.bl k/\Q k H'
theorem zh4{op:CmpOp}{r:R2}(ho:OpR X (compareOp op) r)(ha:PE X a ta)(hb:PE X b tb)(hm:behindInMarks op b=false):PT X (.Compare a [op] [b] pos) (zsk (tOp r ta tb)):=by
 intro pins s σ H Q I h;refine wpAny_isTrue_Compare1 (thn (ha pins s σ H _ I h) λv s1 ⟨x,H1,I1,r1,q1⟩=>thn (hb pins s1 σ H1 _ I1 q1) λu s2 ⟨y,H2,I2,r2,q2⟩=>
  thn (ho pins s2 σ H2 x y v u _ I2 r1 r2 q2) λc s3 ⟨z,H3,I3,r3,k,e,q3⟩=>?_) hm
 subst e
 cases r3;exact wpAny_truthy_bool ⟨H3,I3,q3⟩
def zp8(K:PySem.W.Frag)(x:V)(H:Hp)(k:Bool):Prop :=
 match x with
 |.non=>k=false
 |.bl b=>k=b
 |.int i=>k=(i != 0)
 |.str y=>y.length<=sizeLine/\k=((y.length:Int) != 0)
 |.byt y=>y.size<=sizeLine/\k=((y.size:Int) != 0)
 |.ref p=>(∃xs,SqL K H p xs/\k = !xs.isEmpty)\/(∃xs,SqT K H p xs/\k = !xs.isEmpty)\/∃kvs,H p=some (.dK kvs)/\k = !kvs.isEmpty
 |_=>False
theorem zgr{κ:Type}{kvs:List (κ×V)}{vs:List (κ×Value)}(r:KV kvs vs):(!vs.isEmpty) = !kvs.isEmpty:=by
 cases r <;> rfl
theorem zb0{xs:List V}{its:List Value}(r:Vals xs its):(!its.toArray.isEmpty) = !xs.isEmpty:=by
 cases r <;> simp
theorem jr:(sizeLine:Nat)<2 ^ 63:=by rw[sizeLine_eq];decide
theorem zp9:ztr X (λx H Q=>∃k,zp8 X.K x H k/\Q k H):=by
 intro pins s σ H x v Q I rx h;obtain⟨k,e,q⟩:=h;have hl:=jr;have hs:sizeLine=16777216:=sizeLine_eq
 cases x with
 |non=>
  cases rx;have e':k=false:=e;subst e';exact truthy_none ⟨H,I,q⟩
 |bl b=>
  cases rx;have e':k=b:=e;subst e';exact wpAny_truthy_bool ⟨H,I,q⟩
 |int i=>
  obtain⟨t,rfl⟩:=rx;have e':k=(i != 0):=e;subst e';exact PySem.P.truthy_int ⟨H,I,q⟩
 |str y=>
  obtain⟨t,rfl⟩:=rx;obtain⟨hy,e'⟩:y.length<=sizeLine/\k=((y.length:Int) != 0):=e;subst e';exact PySem.P.truthy_str (by omega) ⟨H,I.tok _,q⟩
 |byt y=>
  obtain⟨t,rfl⟩:=rx;obtain⟨hy,e'⟩:y.size<=sizeLine/\k=((y.size:Int) != 0):=e;subst e';exact PySem.W.truthy_bytes (by omega) ⟨H,I.tok _,q⟩
 |ref p=>
  cases rx;have e':(∃xs,SqL X.K H p xs/\k = !xs.isEmpty)\/(∃xs,SqT X.K H p xs/\k = !xs.isEmpty)\/∃kvs,H p=some (.dK kvs)/\k = !kvs.isEmpty:=e;rcases e' with⟨xs,hx,e'⟩ |⟨xs,hx,e'⟩ |⟨kvs,hx,e'⟩
  ·subst e';obtain⟨its,r,pl,hz⟩:=I.list hx;have hlen:=r.length;exact wpAny_truthy_list pl.isList (by simp only[List.size_toArray];omega) ⟨H,I.tok _,by rw[zb0 r];exact q⟩
  ·subst e';obtain⟨its,r,pl,hz⟩:=I.tuple hx;have hlen:=r.length;exact truthy_tuple pl (by simp only[List.size_toArray];omega) ⟨H,I.tok _,by rw[zb0 r];exact q⟩
  ·subst e';obtain⟨hz,hS,vs,r,m⟩:kvs.length<=sizeLine/\(p == sysModules)=false/\∃vs,KV kvs vs/\s.heap.DictOf (zd0 X.prog X.w) p vs:=I.hok p _ hx;have hlen:kvs.length=vs.length:=Paired.length r;exact wpAny_truthy_dict hS m (by omega) ⟨H,I.tok _,by rw[zgr r];exact q⟩
 |_=>exact(show False from e).elim
theorem zk1(ha:PE X a ta)(he:∀whole,isTrue a X.env whole=(do let v <-whole;standAt a.pos;holding [v] (truthy v))):
  PT X a (λσ H Q=>ta σ H λx H'=>∃k,zp8 X.K x H' k/\Q k H'):=by
 intro pins s σ H Q I h;exact isTrue_plain (thn (ha pins s σ H _ I h) λv s1 ⟨x,H1,I1,r1,q1⟩=>zp9 pins s1 σ H1 x v Q I1 r1 q1) (he _)
theorem zgs:OpR X (binaryOp .Add) (λx y H Q=>∃i j,x=.str i/\y=.str j/\i.length+j.length<=sizeLine/\Q (.str (i++j)) H):=by
 intro pins s σ H x y v u Q I rx ry h;obtain⟨i,j,rfl,rfl,hz,q⟩:=h;obtain⟨t,rfl⟩:=rx;obtain⟨t',rfl⟩:=ry;exact add_str (λt' tk=>⟨.str (i++j),H,I.tok _,⟨_,rfl⟩,q⟩) hz
theorem zfj{x:V}{us:List Value}(r:Vals [x] us):∃u,us = [u]/\RelV x u:=by
 cases r with
 |cons r1 r2=>cases r2;exact⟨_,rfl,r1⟩
theorem zo5{x y:V}{us:List Value}(r:Vals [x,y] us):∃u w',us = [u,w']/\RelV x u/\RelV y w':=by
 cases r with
 |cons r1 r2=>
  cases r2 with
  |cons r3 r4=>cases r4;exact⟨_,_,rfl,r1,r3⟩
theorem zjj(hc:X.calm=true):wy X (.builtin "max") (λxs H Q=>∃i j,xs = [.int i,.int j]/\Q (.int (if j > i then j else i)) H):=by
 intro pins s σ H xs us Q I r h;obtain⟨i,j,rfl,q⟩:=h;obtain⟨u,w',rfl,⟨t,rfl⟩,⟨t',rfl⟩⟩:=zo5 r;refine max_two_ints (I.ok.hd hc) λh' tk k=>⟨_,H,I.kept k,?_,q⟩
 by_cases hj:j > i
 ·rw[if_pos hj,if_pos hj];exact⟨_,rfl⟩
 ·rw[if_neg hj,if_neg hj];exact⟨_,rfl⟩
theorem zjk(hc:X.calm=true):wy X (.builtin "min") (λxs H Q=>∃i j,xs = [.int i,.int j]/\Q (.int (if j<i then j else i)) H):=by
 intro pins s σ H xs us Q I r h;obtain⟨i,j,rfl,q⟩:=h;obtain⟨u,w',rfl,⟨t,rfl⟩,⟨t',rfl⟩⟩:=zo5 r;refine min_two_ints (I.ok.hd hc) λh' tk k=>⟨_,H,I.kept k,?_,q⟩
 by_cases hj:j<i
 ·rw[if_pos hj,if_pos hj];exact⟨_,rfl⟩
 ·rw[if_neg hj,if_neg hj];exact⟨_,rfl⟩
theorem zjl:wy X (.type "int") (λxs H Q=>(∃i,xs = [.int i]/\Q (.int i) H)\/∃k,xs = [.bl k]/\Q (.int (if k then 1 else 0)) H):=by
 intro pins s σ H xs us Q I r h;rcases h with⟨i,rfl,q⟩ |⟨k,rfl,q⟩
 ·obtain⟨u,rfl,t,rfl⟩:=zfj r;exact call_int_int ⟨.int i,H,I,⟨_,rfl⟩,q⟩
 ·obtain⟨u,rfl,r1⟩:=zfj r
  cases r1;exact call_int_bool ⟨.int (if k then 1 else 0),H,I.tok _,⟨_,rfl⟩,q⟩
def zts(K:PySem.W.Frag)(x:V)(H:Hp)(n:Nat):Prop :=
 match x with
 |.str y=>y.length<=sizeLine/\n=y.length
 |.byt y=>y.size<=sizeLine/\n=y.size
 |.ref p=>(∃xs,SqL K H p xs/\n=xs.length)\/∃xs,SqT K H p xs/\n=xs.length
 |_=>False
theorem zk2:wy X (.builtin "len") (λxs H Q=>∃x n,xs = [x]/\zts X.K x H n/\Q (.int n) H):=by
 intro pins s σ H xs us Q I r h;obtain⟨x,n,rfl,e,q⟩:=h;obtain⟨u,rfl,rx⟩:=zfj r;have hl:=jr;have hs:sizeLine=16777216:=sizeLine_eq
 cases x with
 |str y=>
  obtain⟨t,rfl⟩:=rx;obtain⟨hy,e'⟩:y.length<=sizeLine/\n=y.length:=e;subst e';exact len_str (by omega) ⟨.int _,H,I.tok _,⟨_,rfl⟩,q⟩
 |byt y=>
  obtain⟨t,rfl⟩:=rx;obtain⟨hy,e'⟩:y.size<=sizeLine/\n=y.size:=e;subst e';exact PySem.W.len_bytes (by omega) ⟨.int _,H,I.tok _,⟨_,rfl⟩,q⟩
 |ref p=>
  cases rx;have e':(∃xs,SqL X.K H p xs/\n=xs.length)\/∃xs,SqT X.K H p xs/\n=xs.length:=e;rcases e' with⟨xs,hx,e'⟩ |⟨xs,hx,e'⟩
  ·subst e';obtain⟨its,r',pl,hz⟩:=I.list hx;have hlen:=r'.length;exact Calls.call_len_list pl.isList (by simp only[List.size_toArray];omega) ⟨.int xs.length,H,I.tok _,⟨_,by simp only[List.size_toArray];rw[hlen]⟩,q⟩
  ·subst e';obtain⟨its,r',pl,hz⟩:=I.tuple hx;have hlen:=r'.length;exact len_tuple pl (by simp only[List.size_toArray];omega) ⟨.int xs.length,H,I.tok _,⟨_,by simp only[List.size_toArray];rw[hlen]⟩,q⟩
 |_=>exact(show False from e).elim
end
structure zum(h:Heap)(x dx C:Addr)(mA:Str->Option Value):Prop where
 obj:h.get? x=some (PySem.W.instObj C dx)
 ns:h.Ns1 dx mA
 ne:dx≠x
theorem zjm{h:Heap}{dx:Addr}{mA:Str->Option Value}(n:h.Ns1 dx mA):∃od,h.get? dx=some od/\∀name,PySem.W.lookIn name od=some (mA name):=by
 obtain⟨o,es,ep,ho,hd,hk,_,hm⟩:=n;refine⟨o,ho,λname=>?_⟩;have e:=hm name;unfold nsFind findBy at e;rw[<-Array.find?_toList]at e;unfold PySem.W.lookIn;rw[hd];dsimp only
 split
 ·rename_i y q
  rw[q]at e;exact congrArg some e
 ·rename_i q
  rw[q]at e;have a:es.toList.any (·.refKey)=false:=by
   rw[List.any_eq_false];intro y hy;obtain⟨z,t,hkey⟩:=hk y (Array.mem_toList_iff.mp hy);simp[DictEntry.refKey,hkey]
  have a':¬ es.toList.any (·.refKey)=true:=by rw[a];exact Bool.false_ne_true
  rw[if_neg a'];exact congrArg some e
section
variable {prog:Program}{w:World}{A:Around}{E:Value->Shared->Prop}{s:Shared}{K:PySem.W.Frag}{x dx C f:Addr}{mA:Str->Option Value}{name:Str}{v:Value}
end
section
variable {P:Program}{w:World}{H H':Hp}{h h':Heap}{a C dx:Addr}{fs fs':List (Str×V)}
end
structure Cls(K:PySem.W.Frag)(C:Addr):Prop where
 pg:PySem.W.plainGet K C Str.empty=true
 hd:PySem.W.hasDictIn K C=true
 po:PySem.W.plainOver K C=true
 sa:PySem.W.findIn K (.ref C) "__setattr__" = some (some (.builtin "object.__setattr__"))
def zqa(K:PySem.W.Frag)(C:Addr)(f:Str):Prop:=PySem.W.findIn K (.ref C) f=some none
structure Con(K:PySem.W.Frag)(C:Addr)(f:Str)(v:V)(u:Value):Prop where
 at_:PySem.W.findIn K (.ref C) f=some (some u)
 rel:RelV v u
 get:PySem.W.specialIn K u "__get__" = some none
 cp:PySem.W.copiedNames.contains f=false
structure zun(K:PySem.W.Frag)(C:Addr)(m:Str)(f:Addr):Prop where
 at_:PySem.W.findIn K (.ref C) m=some (some (.ref f))
 fn:PySem.W.isFn K (.ref f)=true
 kp:PySem.W.keepIn K (.ref f)=true
section
variable {X:Cx}{pins:List (Addr×Obj)}{σ:St}{H:Hp}{s:Shared}{a C dx:Addr}{fs:List (Str×V)}{f:Str}{v:V}{A:Around}{E:Value->Shared->Prop}
theorem znl{prog:Program}{w:World}{env:Env}{e:Expr}{f:Str}{pos:Pos}{s:Shared}{Q:Value->Shared->Prop}(hb:attributeBase e f env (eval e env)=eval e env)
  (h:wpAny (model prog w) A (eval e env) (λo s₁=>wpAny (model prog w) A (getAttr o f true) Q E s₁) E s):wpAny (model prog w) A (eval (.Attribute e f pos) env) Q E s :=
 Attribute_any_ h (by rw[arm_eval_Attribute,hb])
end
section
variable {X:Cx}{o e value:Expr}{f:Str}{pos pos' tpos:Pos}{ta tv:TE}
end
section
variable {X:Cx}{pins:List (Addr×Obj)}{σ:St}{H:Hp}{s:Shared}{A:Around}{E:Value->Shared->Prop}{Q:Value->Shared->Prop}{c:Value}{b:Bool}
inductive zb1(K:PySem.W.Frag)(H:Hp):V->Value->Prop where
 |non:zb1 K H .non (.type "NoneType")
 |bl (x:Bool):zb1 K H (.bl x) (.type "bool")
 |int (i:Int):zb1 K H (.int i) (.type "int")
 |str (x:Str):zb1 K H (.str x) (.type "str")
 |flt (x:UInt64):zb1 K H (.flt x) (.type "float")
 |lst {a:Addr}{xs:List V} (e:H a=some (.lst xs)):zb1 K H (.ref a) (.type "list")
 |frz {a:Addr}{o:Obj}{xs:List V} (e:H a=some (.frz o (.lst xs))):zb1 K H (.ref a) (.type "list")
 |tup {a:Addr}{xs:List V} (e:H a=some (.tup xs)):zb1 K H (.ref a) (.type "tuple")
 |dK {a:Addr}{kvs:List (Key×V)} (e:H a=some (.dK kvs)):zb1 K H (.ref a) (.type "dict")
 |dT {a:Addr}{kvs:List (List Key×V)} (e:H a=some (.dT kvs)):zb1 K H (.ref a) (.type "dict")
 |ins {a C dx:Addr}{fs:List (Str×V)} (e:H a=some (.ins C dx fs)) (cl:Cls K C) (ha:PySem.W.findIn K (.ref C) "__class__" = some (some (.builtin "object.__class__")))
   (hn:PySem.W.specialIn K (.builtin "object.__class__") "__get__" = some (some (.builtin "getset_descriptor.__get__"))) (htk:PySem.W.takesIn K (.builtin "object.__class__")=some true)
   (hm:PySem.W.mroIn K C (.type "object")=some true):zb1 K H (.ref a) (.ref C)
end
structure Room(k:Nat)(A:Around):Prop where
 hd:A.handled=none
 dp:A.depth+3 * k+5<recursionLimit
 un:A.units+16 * k+200<cLine
 gd:A.guards=some []
theorem Room.mono{j k:Nat}{A:Around}(r:Room k A)(h:j<=k):Room j A:=⟨r.hd,by have:=r.dp;omega,by have:=r.un;omega,r.gd⟩
theorem Room.deeper{k:Nat}{A:Around}(r:Room (k+1) A)(env:Env):Room k (A.deeper env) :=
 ⟨r.hd,by have:=r.dp;show A.depth+1+3 * k+5<_;omega,by have:=r.un;show A.units+3+16 * k+200<_;omega,r.gd⟩
theorem zgt{A:Around}{C:Addr}{us:List Value}{kw:List (Str×Value)}:(A.under (.builtin "type.__call__" ⟨.ref C::us,kw⟩)).depth=A.depth+1:=by
 first|rfl|simp[Around.under,Code.weight,Code.isCreation,Code.isGuard,Code.isCaller,Code.frames,Code.isFrame,guardIds]
theorem zgu{A:Around}{C:Addr}{us:List Value}{kw:List (Str×Value)}:(A.under (.builtin "type.__call__" ⟨.ref C::us,kw⟩)).units=A.units+1:=by
 first|rfl|simp[Around.under,Code.cUnits,Code.frames,Code.isFrame]
theorem Room.make{k:Nat}{A:Around}(r:Room (k+1) A)(C:Addr)(us:List Value)(kw:List (Str×Value)):Room k (A.under (.builtin "type.__call__" ⟨.ref C::us,kw⟩)) :=
 ⟨r.hd,by have:=r.dp;rw[zgt];omega,by have:=r.un;rw[zgu];omega,by first|exact r.gd |(simp[Around.under,Code.isGuard,guardIds];exact r.gd)⟩
theorem Room.depth{k:Nat}{A:Around}(r:Room k A):A.depth<recursionLimit:=by have:=r.dp;omega
theorem Room.units{k:Nat}{A:Around}(r:Room k A):A.units+64<cLine:=by have:=r.un;omega
def ztt:TA:=λ_ H Q=>Q [] H
def zsl(ta:TE)(tr:TA):TA:=λσ H Q=>ta σ H λx H1=>tr σ H1 λxs H2=>Q (x::xs) H2
section
variable {X:Cx}{e:Expr}{es:List Expr}{te:TE}{t:TA}{pos:Pos}
theorem xp:PA X [] ztt:=λ_ _ _ _ H Q I h=>Calls.spliced_nil ⟨[],H,I,.nil,h⟩
theorem yo(ha:PE X e te)(hr:PA X es t)(hs:starEach (e::es) X.env=(false,eval e X.env)::starEach es X.env:=by rfl):PA X (e::es) (zsl te t):=by
 intro pos pins s σ H Q I h;rw[hs];show wpAny _ _ (spliced ((false,eval e X.env)::backTo pos (starEach es X.env))) _ _ s;refine Calls.spliced_cons (thn (ha pins s σ H _ I h) λu s1 ⟨x,H1,I1,r1,q1⟩=>?_);exact thn (hr pos pins s1 σ H1 _ I1 q1) λus s2 ⟨xs,H2,I2,r2,q2⟩=>⟨x::xs,H2,I2,.cons r1 r2,q2⟩
def ztu(t:TA):TE:=λσ H Q=>t σ H λxs H1=>xs.length<=sizeLine/\∀p,H1 p=none->Q (.ref p) (upd H1 p (.tup xs))
def ztv(t:TA):TE:=λσ H Q=>t σ H λxs H1=>xs.length<=sizeLine/\∀p,H1 p=none->Q (.ref p) (upd H1 p (.lst xs))
theorem zk3{x1}(h:PA X es t):PE X (.Tuple es x1 pos) (ztu t):=by
 intro pins s σ H Q I hq;refine wpAny_Tuple_spliced (thn (h pos pins s σ H _ I hq) λus s1 ⟨xs,H1,I1,r,z,q⟩=>⟨by rw[<-r.length];exact z,?_⟩);have hf:H1 s1.heap.objs.size=none:=I1.hok.fresh (Nat.le_refl _);refine⟨.ref s1.heap.objs.size,upd H1 s1.heap.objs.size (.tup xs),I1.laid (t':=s1.toks) (λb u e=>Heap.get?_push_of_some _ e) (Nat.le_refl _) ?_,rfl,q _ hf⟩;exact⟨z,us,r,⟨_,Heap.get?_push_size _ rfl,rfl,⟨_,rfl⟩,rfl⟩⟩
theorem zk4(h:PA X es t):PE X (.List es pos) (ztv t):=by
 intro pins s σ H Q I hq;refine wpAny_List_spliced (thn (h pos pins s σ H _ I hq) λus s1 ⟨xs,H1,I1,r,z,q⟩=>⟨by rw[<-r.length];exact z,?_⟩);have hf:H1 s1.heap.objs.size=none:=I1.hok.fresh (Nat.le_refl _);refine⟨.ref s1.heap.objs.size,upd H1 s1.heap.objs.size (.lst xs),I1.laid (t':=s1.toks) (λb u e=>Heap.get?_push_of_some _ e) (Nat.le_refl _) ?_,rfl,q _ hf⟩;exact⟨z,us,0,r,Heap.get?_push_size _ rfl⟩
end
abbrev Sp:=List V->Hp->VK->XK->Prop
abbrev CXT:=List Env->Hp->Shared->XK->Value->Shared->Prop
structure Env0(P:Program)(w:World)(K:PySem.W.Frag)(mg:Str->Option Value)(base:Heap)(A:Around)(outer:List Env)(s:Shared)(H:Hp):Prop where
 frames:A.frames=some outer
 mod:Mod K mg base
 bs:∀b o,base.get? b=some o->s.heap.get? b=some o/\H b=none
 bsz:base.objs.size<=s.heap.objs.size
 funs:s.heap.FunFrames base outer
 frf:∀b∈frs outer,H b=none
 hok:HOk P w H s.heap
 bare:AllBare s.gens
def CE(outer:List Env)(P:Program)(w:World)(H:Hp)(s:Shared)(Q:VK)(u:Value)(s':Shared):Prop :=
 ∃v H',s'.os=s.os/\AllBare s'.gens/\Un (frs outer) [] H H' s.heap s'.heap/\HOk P w H' s'.heap/\RelV v u/\Q v H'
def CR(CX:CXT)(outer:List Env)(P:Program)(w:World)(H:Hp)(s:Shared)(Q:VK)(E:XK)(r:Result)(s':Shared):Prop :=
 match r with
 |.ok (.ret u)=>CE outer P w H s Q u s'
 |.ok _=>False
 |.error e=>CX outer H s E e s'
structure FnOk(P:Program)(w:World)(K:PySem.W.Frag)(mg:Str->Option Value)(base:Heap)(CX:CXT)(k:Nat)(f:Addr)(fd:FuncData)(ps:List Str)(sp:Sp):Prop where
 len:∀vs H Q E,sp vs H Q E->vs.length=ps.length
 run:∀(A:Around) (outer:List Env) (s:Shared) (H:Hp) (args:Args) (us:List Value) (vs:List V) (Q:VK) (E:XK),Room k A->Env0 P w K mg base A outer s H->BindsTo s fd args (ps.zip us)->Vals vs us->sp vs H Q E ->
  codeAny (model P w) A (.call (.ref f) args) (CR CX outer P w H s Q E) s
theorem FnOk.mono{P:Program}{w:World}{K:PySem.W.Frag}{mg:Str->Option Value}{base:Heap}{CX:CXT}{j k:Nat}{f:Addr}{fd:FuncData}{ps:List Str}{sp:Sp}(F:FnOk P w K mg base CX j f fd ps sp)(h:j<=k):
  FnOk P w K mg base CX k f fd ps sp:=⟨F.len,λA outer s H args us vs Q E hr=>F.run A outer s H args us vs Q E (hr.mono h)⟩
theorem FnOk.imp{P:Program}{w:World}{K:PySem.W.Frag}{mg:Str->Option Value}{base:Heap}{CX:CXT}{k:Nat}{f:Addr}{fd:FuncData}{ps:List Str}{sp sp':Sp}(F:FnOk P w K mg base CX k f fd ps sp)
  (h:∀vs H Q E,sp' vs H Q E->sp vs H Q E):FnOk P w K mg base CX k f fd ps sp' :=
 ⟨λvs H Q E q=>F.len vs H Q E (h _ _ _ _ q),λA outer s H args us vs Q E hr he hb hv hs=>F.run A outer s H args us vs Q E hr he hb hv (h _ _ _ _ hs)⟩
theorem Env0.make{P:Program}{w:World}{K:PySem.W.Frag}{mg:Str->Option Value}{base:Heap}{A:Around}{outer:List Env}{s:Shared}{H:Hp}(e:Env0 P w K mg base A outer s H)(C:Addr)(us:List Value)(kw:List (Str×Value)):
  Env0 P w K mg base (A.under (.builtin "type.__call__" ⟨.ref C::us,kw⟩)) outer s H:=⟨by first|exact e.frames |(simpa[Around.under,Code.envs,Code.isFrame,pushEnvs]using e.frames),e.mod,e.bs,e.bsz,e.funs,e.frf,e.hok,e.bare⟩
section
variable {X:Cx}{pins:List (Addr×Obj)}{σ:St}{H:Hp}{s s':Shared}
theorem Inv.env0(I:Inv X pins σ H s):Env0 X.prog X.w X.K X.mg X.base X.A X.stack s H :=
 ⟨I.ok.frames,I.ok.mod,I.bs,Nat.le_trans I.ok.bsz I.sz,I.stack,I.stkFree,I.hok,I.bare⟩
theorem Inv.after{Q:VK}{u:Value}(I:Inv X pins σ H s)(h:CE X.stack X.prog X.w H s Q u s'):EP X pins σ Q u s':=by
 obtain⟨v,H',os,bare,un,hok,r,q⟩:=h;obtain⟨hh,g,d,t,os'⟩:=s';obtain rfl:os'=s.os:=os;exact⟨v,H',I.call (h':=hh) (g':=g) (d':=d) (t':=t) (ch:=[]) un hok bare (λb z=>absurd z (by simp)),r,q⟩
end
def zk5(sp:Sp)(dvs:List V)(E:XK)(t:TA):TE:=λσ H Q=>t σ H λvs H1=>sp (vs++dvs) H1 Q E
def Binds(K:PySem.W.Frag)(fd:FuncData)(ps:List Str)(ds:List Value):Prop :=
 ∀(s:Shared) (us:List Value),K.In s.heap->(us++ds).length=ps.length->BindsTo s fd ⟨us,[]⟩ (ps.zip (us++ds))
theorem Binds.all{K:PySem.W.Frag}{fd:FuncData}{ps:List Str}(h:∀us:List Value,us.length=ps.length->bindArgs fd ⟨us,[]⟩=pure (ps.zip us)):Binds K fd ps []:=λs us _ hl=>by
 rw[List.append_nil]at hl ⊢;exact .of_eq (h us hl)
def zgv(CX:CXT)(X:Cx)(E:XK):Prop:=∀(pins:List (Addr×Obj)) (σ:St) (H:Hp) (s:Shared) (e:Value) (s':Shared),Inv X pins σ H s->CX X.stack H s E e s'->X.xe e s'
section
variable {X:Cx}{CX:CXT}{k:Nat}{f C:Addr}{fd:FuncData}{ps:List Str}{sp:Sp}{dvs:List V}{ds:List Value}{E:XK}{x m:Str}{p pos apos:Pos}{e o:Expr}{es:List Expr}{ta:TE}{t:TA}
theorem zqb{pins:List (Addr×Obj)}{σ:St}{H:Hp}{s:Shared}{Q:VK}{us:List Value}{vs:List V}(F:FnOk X.prog X.w X.K X.mg X.base CX k f fd ps sp)(hr:Room k X.A)(hb:Binds X.K fd ps ds)(hd:Vals dvs ds)(hx:zgv CX X E)
  (I:Inv X pins σ H s) (r:Vals vs us) (h:sp (vs++dvs) H Q E):wpAny (model X.prog X.w) X.A (call (.ref f) us) (EP X pins σ Q) X.xe s:=by
 have r2:Vals (vs++dvs) (us++ds):=r.append hd;have hl:(us++ds).length=ps.length:=by rw[<-r2.length];exact F.len _ _ _ _ h
 refine wpAny_call (codeAny_mono (F.run X.A X.stack s H ⟨us,[]⟩ (us++ds) (vs++dvs) Q E hr I.env0 (hb s us I.kIn hl) r2 h) λr s' hq=>?_)
 cases r with
 |error e=>exact hx pins σ H s e s' I hq
 |ok fl=>
  cases fl with
  |ret u=>exact I.after hq
  |next=>exact False.elim hq
  |brk=>exact False.elim hq
  |cont=>exact False.elim hq
theorem znm(F:FnOk X.prog X.w X.K X.mg X.base CX k f fd ps sp)(hr:Room k X.A)(hg:Gl X x)(hm:X.mg x=some (.ref f))(hk:PySem.W.keepIn X.K (.ref f)=true)(hb:Binds X.K fd ps ds)(hd:Vals dvs ds)(hx:zgv CX X E)
  (ha:PA X (e::es) t) (hdb:(x ==("__debug__" : Str))=false:=by decide) (he:starEach (e::es) X.env=(false,eval e X.env)::starEach es X.env:=by rfl) (hpl:(backTo pos (starEach es X.env)).any (·.1)=false:=by rfl) :
  PE X (.Call (.Name x p) (e::es) [] pos) (zk5 sp dvs E t):=by
 intro pins s σ H Q I h;refine wpAny_Call_Name_kw (v0 I hg hm ?_ hdb);refine PySem.W.callWith_K (h₀:=X.base) I.ok.mod.kin hk (thn (ha pos pins s σ H _ I h) λus s1 ⟨vs,H1,I1,r,q⟩=>⟨I1.kIn,?_⟩) he hpl;exact zqb F hr hb hd hx I1 r q
structure Mk(K:PySem.W.Frag)(C f:Addr):Prop where
 makes:PySem.W.makesIn K C=true
 init:PySem.W.findIn K (.ref C) "__init__" = some (some (.ref f))
 fn:PySem.W.isFn K (.ref f)=true
 kp:PySem.W.keepIn K (.ref C)=true
end
section
variable {X:Cx}{CX:CXT}{k:Nat}{f C:Addr}{fd:FuncData}{ps ks:List Str}{sp:Sp}{E:XK}{x m:Str}{p pos apos kpos:Pos}{e o:Expr}{es:List Expr}{kws:List Keyword}{te ta:TE}{t tk:TA}{nm:Option Str}
structure ztw(K:PySem.W.Frag)(fd:FuncData)(ps ks:List Str)(g:List Value->List Value->List Value)(gV:List V->List V->List V):Prop where
 to:∀(s:Shared) (us ws:List Value),K.In s.heap->(g us ws).length=ps.length->BindsTo s fd ⟨us,ks.zip ws⟩ (ps.zip (g us ws))
 rel:∀{vs:List V}{us:List Value}{zs:List V}{ws:List Value},Vals vs us->Vals zs ws->Vals (gV vs zs) (g us ws)
variable {g:List Value->List Value->List Value}{gV:List V->List V->List V}
end
structure yf(N P:List Str)(sc:Scope):Prop where
 kind:sc.kind=.function
 co:sc.isCoroutine=false
 gen:sc.isGenerator=false
 nd:N.Nodup
 pre:N.take P.length=P
 par:∀x∈P,sc.names.lookup x=some .local\/sc.names.lookup x=some .cell
 nofree:∀y∈sc.names,y.2 ≠ .free
theorem zc9{kindOf:Str->Option NameKind}{x:Str}:∀{binds:List (Str×Value)}{m:Str->Option Value},(∀v,(x,v)∉binds)->bindL kindOf binds m x=m x
 |[],_,_=>rfl
 |(n,v)::r,m,h=>by
  unfold bindL;rw[zc9 λw hw=>h w (List.mem_cons_of_mem _ hw)]
  split
  ·have:x≠n:=by rintro rfl;exact h v List.mem_cons_self
   simp[this]
  ·rfl
theorem zda{kindOf:Str->Option NameKind}{x:Str}:∀{binds:List (Str×Value)}{m:Str->Option Value},(∀v,(x,v)∉binds)->bindC kindOf binds m x=m x
 |[],_,_=>rfl
 |(n,v)::r,m,h=>by
  unfold bindC;rw[zda λw hw=>h w (List.mem_cons_of_mem _ hw)]
  split
  ·rfl
  ·have:x≠n:=by rintro rfl;exact h v List.mem_cons_self
   simp[this]
theorem zdb{kindOf:Str->Option NameKind}{x:Str}{v:Value}:∀{P:List Str}{vs:List Value}{i:Nat}{m:Str->Option Value},P.Nodup->P[i]?=some x->vs[i]?=some v->kindOf x=some .local ->
  bindL kindOf (P.zip vs) m x=some v
 |[],_,_,_,_,h,_,_=>by simp at h
 |_::_,[],_,_,_,_,h,_=>by simp at h
 |p::P,w::vs,0,m,nd,h1,h2,hk=>by
  simp at h1 h2;subst h1;subst h2;show bindL kindOf ((p,w)::P.zip vs) m p=_;unfold bindL;rw[zc9 λv hv=>(List.nodup_cons.mp nd).1 (List.of_mem_zip hv).1,if_pos hk];simp
 |p::P,w::vs,i+1,m,nd,h1,h2,hk=>by
  show bindL kindOf ((p,w)::P.zip vs) m x=_;unfold bindL;exact zdb (i:=i) (List.nodup_cons.mp nd).2 (by simpa using h1) (by simpa using h2) hk
theorem zdc{kindOf:Str->Option NameKind}{x:Str}{v:Value}:∀{P:List Str}{vs:List Value}{i:Nat}{m:Str->Option Value},P.Nodup->P[i]?=some x->vs[i]?=some v->kindOf x≠some .local ->
  bindC kindOf (P.zip vs) m x=some v
 |[],_,_,_,_,h,_,_=>by simp at h
 |_::_,[],_,_,_,_,h,_=>by simp at h
 |p::P,w::vs,0,m,nd,h1,h2,hk=>by
  simp at h1 h2;subst h1;subst h2;show bindC kindOf ((p,w)::P.zip vs) m p=_;unfold bindC;rw[zda λv hv=>(List.nodup_cons.mp nd).1 (List.of_mem_zip hv).1,if_neg hk];simp
 |p::P,w::vs,i+1,m,nd,h1,h2,hk=>by
  show bindC kindOf ((p,w)::P.zip vs) m x=_;unfold bindC;exact zdc (i:=i) (List.nodup_cons.mp nd).2 (by simpa using h1) (by simpa using h2) hk
def wo(N:List Str)(vs:List V):St:=vs.map some++List.replicate (N.length-vs.length) none
def xn(CX:CXT)(P:Program)(w:World)(K:PySem.W.Frag)(mg:Str->Option Value)(base:Heap)(N:List Str)(qual:Str)(scope:Scope)(f:Addr)(cd:Value)(A:Around)(outer:List Env)(s:Shared)(H:Hp)(E:XK):Cx where
 prog:=P
 w:=w
 K:=K
 mg:=mg
 base:=base
 A:=A.deeper (envOfC qual scope s.heap.objs.size f cd)
 N:=N
 s₀:=s
 H₀:=H
 env:=envOfC qual scope s.heap.objs.size f cd
 outer:=outer
 stack:=envOfC qual scope s.heap.objs.size f cd::outer
 ex:=[]
 calm:=true
 fn:=λ_=>true
 pn:=[]
 xe:=λe s'=>wpAny (model P w) (A.deeper (envOfC qual scope s.heap.objs.size f cd)) (leaving (envOfC qual scope s.heap.objs.size f cd) e) (λ_ s''=>CX outer H s E e s'') (λe' s''=>CX outer H s E e' s'') s'
theorem zfk{sc:Scope}{n:Nat}{x:Str}(h:sc.names.lookup x=some .cell):∃c,(cellsFrom n sc.names []).lookup x=some c:=by
 have q:=PySem.W.cellsFrom_some sc.names n [] (.inl h);exact Option.isSome_iff_exists.mp q
theorem za0{CX:CXT}{P:Program}{w:World}{K:PySem.W.Frag}{mg:Str->Option Value}{base:Heap}{N ps:List Str}{qual:Str}{scope:Scope}{f:Addr}{cd:Value}{A:Around}{outer:List Env}{s s1:Shared}{H:Hp}{E:XK}{us:List Value}{vs:List V}
  (S:yf N ps scope) (hd:A.handled=none) (e0:Env0 P w K mg base A outer s H) (hl:vs.length=ps.length) (r:Vals vs us)
  (x:InCallC s s.heap.objs.size (bindL (envOfC qual scope s.heap.objs.size f cd).kindOf (ps.zip us) λ_=>none) (cellsFrom (s.heap.objs.size+1) scope.names []) (bindC (envOfC qual scope s.heap.objs.size f cd).kindOf (ps.zip us) λ_=>none) s1) :
  Inv (xn CX P w K mg base N qual scope f cd A outer s H E) [] (wo N vs) H s1:=by
 have hpl:ps.length<=N.length:=by have:=congrArg List.length S.pre;rw[List.length_take]at this;omega
 obtain⟨h1,tk,rfl,hk⟩:=x.done;have noA:∀b:Addr,b∉(xn CX P w K mg base N qual scope f cd A outer s H E).ex:=λb z=>absurd (show b∈([]:List Addr) from z) (by simp);refine⟨⟨e0.mod,S.kind,rfl,rfl,Nat.le_refl _,λy z c h1 h2=>?_,λy hy=>?_,λy c _ h=>?_,λ_=>hd,Around.frames_deeper e0.frames,.inr ⟨rfl,rfl⟩,λb z=>absurd z (noA b),e0.bs,e0.bsz,λb _ _=>noA b,λb z=>absurd z (noA b),e0.funs,e0.frf⟩,
  rfl,e0.bare,Un.kept hk,⟨_,x.toInCall.ns,λi y v h1 h2 h3=>?_⟩,λy c h=>⟨_,x.cell y c h⟩,e0.hok.fresh (Nat.le_refl _),λy c h=>?_,λp hp=>absurd (show p∈([]:List (Addr×Obj)) from hp) (by simp),e0.hok.kept hk,?_⟩
 ·exact name_of_addr x.apart (PySem.mem_of_lookup h1) (PySem.mem_of_lookup h2)
 ·have hy:scope.names.lookup y=some .cell\/scope.names.lookup y=some .free:=hy;rcases hy with hy|hy
  ·exact zfk hy
  ·exact absurd rfl (S.nofree _ (PySem.mem_of_lookup hy))
 ·exact Nat.le_of_lt (x.above y c (PySem.mem_of_lookup h))
 ·have hi:i<vs.length:=by
   unfold wo at h2
   by_cases hi:i<vs.length
   ·exact hi
   ·rw[List.getElem?_append_right (by simpa using hi)]at h2;rw[List.getElem?_replicate]at h2
    split at h2 <;> cases h2
  have ha:vs[i]?=some v:=by
   unfold wo at h2;rw[List.getElem?_append_left (by simpa using hi),List.getElem?_map]at h2
   cases e:vs[i]? with
   |none=>rw[e]at h2;cases h2
   |some a=>rw[e]at h2;cases h2;rfl
  obtain⟨u,hu,rv⟩:=r.get ha;have hp:ps[i]?=some y:=by
   rw[<-S.pre,List.getElem?_take_of_lt (by omega)];exact h1
  have ndP:ps.Nodup:=by rw[<-S.pre];exact S.nd.sublist (List.take_sublist _ _)
  refine⟨u,rv,?_⟩;rcases S.par y (List.mem_of_getElem? hp) with k|k
  ·exact .inl ⟨k,zdb ndP hp hu k⟩
  ·obtain⟨c,e⟩:=zfk (n:=s.heap.objs.size+1) k;refine .inr ⟨.inl k,c,e,?_⟩;have q:=x.cell y c e;rw[zdc ndP hp hu (by show scope.names.lookup y≠_;rw[k];decide)]at q;exact q
 ·exact e0.hok.fresh (Nat.le_of_lt (x.above y c (PySem.mem_of_lookup h)))
 ·unfold wo;show _=N.length;rw[List.length_append,List.length_map,List.length_replicate];omega
theorem zo6{CX:CXT}{P:Program}{w:World}{K:PySem.W.Frag}{mg:Str->Option Value}{base:Heap}{k:Nat}{f:Addr}{name qual:Str}{params:Arguments}{body:List Stmt}{scope:Scope}{dV kV doc pm cdv ct oc:Value}{an od:Option Addr}
  {osl:Array (Option Value)}{N ps:List Str}{sp:Sp} (lk:K.lookup f=some ⟨oc,od,.func (PySem.W.fnOf name qual params body scope dV kV doc pm an cdv ct),osl⟩) (hcd:PySem.W.codeIn K cdv qual=true) (S:yf N ps scope)
  (len:∀vs H Q E,sp vs H Q E->vs.length=ps.length)
  (hbody:∀(A:Around) (outer:List Env) (s:Shared) (H:Hp) (vs:List V) (Q:VK) (E:XK),Room k (A.deeper (envOfC qual scope s.heap.objs.size f cdv))->sp vs H Q E ->
   ∃t,PSs (xn CX P w K mg base N qual scope f cdv A outer s H E) body t/\t { nx:=λ_ H'=>Q .non H',rt:=Q } (wo N vs) H) :
  FnOk P w K mg base CX (k+1) f (PySem.W.fnOf name qual params body scope dV kV doc pm an cdv ct) ps sp:=by
 refine⟨len,λA outer s H args us vs Q E hr e0 hb r hsp=>?_⟩;have hl:=len _ _ _ _ hsp;have KX:K.In s.heap:=e0.mod.kin.keeps λb o e=>(e0.bs b o e).1;have lim:s.heap.NoLimit:=e0.mod.nolimit.keeps λb o e=>(e0.bs b o e).1;have hkind:∀y∈ps.zip us,scope.names.lookup y.1=some .local\/(scope.names.lookup y.1=some .cell/\((cellsFrom (s.heap.objs.size+1) scope.names []).lookup y.1).isSome=true):=λ⟨n,v⟩ hy=>by
  rcases S.par n (List.of_mem_zip hy).1 with q|q
  ·exact .inl q
  ·exact .inr ⟨q,PySem.W.cellsFrom_some _ _ _ (.inl q)⟩
 refine codeAny_call_function hr.depth (KX _ _ lk) rfl S.co S.gen rfl (PySem.W.codeRec_of KX hcd) (hb _ _ _ _ ?_);refine wpAny_newFunctionEnv_cells S.kind hkind λenv he s1 x=>?_;subst he;refine⟨lim.keeps x.toInCall.keep,codeAny_func ?_⟩;obtain⟨t,ht,hq⟩:=hbody A outer s H vs Q E (hr.deeper _) hsp;have I:Inv (xn CX P w K mg base N qual scope f cdv A outer s H E) [] (wo N vs) H s1:=za0 S hr.hd e0 hl r x;refine wpAny_mono (ht [] s1 (wo N vs) H _ I hq) (λfl s' hs=>?_) λe s' hs=>hs;have fin:∀{σ':St}{H':Hp}{v:V}{u:Value},Inv (xn CX P w K mg base N qual scope f cdv A outer s H E) [] σ' H' s'->RelV v u->Q v H'->CE outer P w H s Q u s' :=
  λ{σ' H' v u} J rv q=>⟨v,H',J.os,J.bare,J.base,J.hok,rv,q⟩
 cases fl with
 |ret u=>
  obtain⟨v,σ',H',J,rv,q⟩:=hs;exact fin J rv q
 |next=>
  obtain⟨σ',H',J,q⟩:=hs;exact fin (v:=V.non) (u:=Value.none) J rfl q
 |brk=>
  obtain⟨_,_,_,q⟩:=hs;exact False.elim q
 |cont=>
  obtain⟨_,_,_,q⟩:=hs;exact False.elim q
section
variable {X:Cx}{x:Str}{p pos:Pos}{e:Expr}{es:List Expr}{t:TA}{id T:String}{r:List V->Hp->VK->Prop}
def tCB(r:List V->Hp->VK->Prop)(t:TA):TE:=λσ H Q=>t σ H λvs H1=>r vs H1 Q
theorem vm(hc:wy X (.builtin id) r)(hg:Gl X x)(hm:X.mg x=none)(hv:bootBuiltins x=some (.builtin id))(ha:PA X (e::es) t)(hn:x ≠ "__name__" := by decide)(hdb:(x ==("__debug__" : Str))=false:=by decide)
  (he:starEach (e::es) X.env=(false,eval e X.env)::starEach es X.env:=by rfl) (hpl:(backTo pos (starEach es X.env)).any (·.1)=false:=by rfl):PE X (.Call (.Name x p) (e::es) [] pos) (tCB r t):=by
 intro pins s σ H Q I h;refine wpAny_Call_Name_kw (jo I hg hm hv ?_ hn hdb);exact PyProof.Rows.callWith_builtin1 (thn (ha pos pins s σ H _ I h) λus s1 ⟨vs,H1,I1,r1,q1⟩=>hc pins s1 σ H1 vs us Q I1 r1 q1) he hpl
theorem zjn(hc:wy X (.type T) r)(hg:Gl X x)(hm:X.mg x=none)(hv:bootBuiltins x=some (.type T))(ha:PA X (e::es) t)(hn:x ≠ "__name__" := by decide)(hdb:(x ==("__debug__" : Str))=false:=by decide)
  (he:starEach (e::es) X.env=(false,eval e X.env)::starEach es X.env:=by rfl) (hpl:(backTo pos (starEach es X.env)).any (·.1)=false:=by rfl):PE X (.Call (.Name x p) (e::es) [] pos) (tCB r t):=by
 intro pins s σ H Q I h;refine wpAny_Call_Name_kw (jo I hg hm hv ?_ hn hdb);exact PyProof.Rows.callWith_type1 (thn (ha pos pins s σ H _ I h) λus s1 ⟨vs,H1,I1,r1,q1⟩=>hc pins s1 σ H1 vs us Q I1 r1 q1) he hpl
end
end L2
namespace HT
open PySem PyProof.Rows
section
open PySem.SeqAt
open PySem.AutoSeq1 (wpAny_loadPart')
open PySem.MeetsSeq PySem.MeetsSeq2 PySem.MeetsSeq3
end
section
variable {prog:Program}{w:World}{A:Around}{E:Value->Shared->Prop}{s:Shared}
theorem cat_tup{t b:Addr}{vs ws:List Value}{Q:Value->Shared->Prop}(ht:IsTup s.heap t vs.toArray)(hb:IsTup s.heap b ws.toArray)(hv:vs ≠ [])
  (h1:ws = []->Q (.ref t) s) (h2:ws ≠ []->Q (.ref s.heap.objs.size) { s with heap:=s.heap.push { cls:=.type "tuple",data:=.seq (vs++ws).toArray } })
  (hsz:vs.length+ws.length<=sizeLine):wpAny (model prog w) A (binaryOp .Add (.ref t) (.ref b)) Q E s:=by
 obtain⟨⟨cls,dd,data,sl⟩,ho,hc,n,hd⟩:=id ht;obtain⟨⟨cls2,dd2,data2,sl2⟩,ho2,hc2,n2,hd2⟩:=id hb;simp only at hc hd hc2 hd2;subst hc hd hc2 hd2;have e:vs.toArray++ws.toArray=(vs++ws).toArray:=by simp
 by_cases hw:ws = []
 ·exact concat_meets ⟨_,ho,rfl⟩ ⟨_,ho2,rfl⟩ noFill_tuple_add seq_tuple_add PySem.F.slot_tuple_add PySem.F.entry_tuple_add (PySem.F.args_tuple_add_2 _ _)
   (tuple_addW1 t b vs.toArray ws.toArray n n2 dd dd2 sl sl2 (by simpa using hv) (by simp[hw])) ⟨ho,ho2,h1 hw⟩
 ·refine concat_meets ⟨_,ho,rfl⟩ ⟨_,ho2,rfl⟩ noFill_tuple_add seq_tuple_add PySem.F.slot_tuple_add PySem.F.entry_tuple_add (PySem.F.args_tuple_add_2 _ _)
   (tuple_addW2 t b vs.toArray ws.toArray n n2 dd dd2 sl sl2 (by simpa using hv) (by simpa using hw) (by rw[List.size_toArray,List.size_toArray];exact hsz)) ⟨ho,ho2,?_⟩
  rw[e];exact h2 hw
def sIx(n d:Nat):Option Int->Nat
 |none=>d
 |some v=>if v<0 then (v+(n:Int)).toNat else min v.toNat n
theorem sIx_none(n d:Nat):sIx n d none=d:=rfl
theorem sIx_nat(n d k:Nat):sIx n d (some (k:Int))=min k n:=by
 show(if (k:Int)<0 then ((k:Int)+(n:Int)).toNat else min (k:Int).toNat n)=min k n;rw[if_neg (by omega),Int.toNat_natCast]
theorem zqc(n d:Nat)(hd:d<=n)(o:Option Int):sIx n d o<=n:=by
 cases o with
 |none=>exact hd
 |some v=>
  show(if v<0 then (v+(n:Int)).toNat else min v.toNat n)<=n
  by_cases hv:v<0
  ·rw[if_pos hv];omega
  ·rw[if_neg hv];exact Nat.min_le_right _ _
theorem zh5(v:Int)(n d:Nat):(if v<0 then max (v+(n:Int)) 0 else min v (n:Int))=((sIx n d (some v):Nat):Int):=by
 show(if v<0 then max (v+(n:Int)) 0 else min v (n:Int))=(((if v<0 then (v+(n:Int)).toNat else min v.toNat n):Nat):Int)
 by_cases hv:v<0
 ·simp only[if_pos hv];omega
 ·simp only[if_neg hv];omega
theorem zgw(lo hi:Option Int)(n:Nat):Builtin.Slice.sliceAdjust lo hi 1 (n:Int)=(((sIx n 0 lo:Nat):Int),((sIx n n hi:Nat):Int)):=by
 have h1:¬ ((1:Int)<0):=by omega
 unfold Builtin.Slice.sliceAdjust;simp only[h1,if_false];refine Prod.ext ?_ ?_
 ·cases lo with
  |none=>rfl
  |some v=>exact zh5 v n 0
 ·cases hi with
  |none=>rfl
  |some v=>exact zh5 v n n
theorem zgx(i j:Nat):Builtin.Slice.slicePlaces (i:Int) (j:Int) 1=j-i:=by
 unfold Builtin.Slice.slicePlaces;have h1:(1:Int) > 0:=by omega
 simp only[h1,if_true,Int.ediv_one]
 split <;> omega
theorem zb2{v:Value}{o:Option Int}{Q:Option Int->Shared->Prop}(p:IsPart v o)(h:Q o s):wpAny (model prog w) A (Builtin.Slice.slicePartIndex v) Q E s:=by
 cases p with
 |none=>exact slicePart_none h
 |int i t=>exact slicePart_int h
theorem sliceApplied_gen{sl:Addr}{vl vu:Value}{lo hi:Option Int}{n:Nat}{Q:Int×Int×Nat->Shared->Prop}(hs:s.heap.IsSliceOf sl vl vu .none)(pl:IsPart vl lo)(pu:IsPart vu hi)
  (h:Q (((sIx n 0 lo:Nat):Int),1,sIx n n hi-sIx n 0 lo) s):wpAny (model prog w) A (Builtin.Slice.sliceApplied (.ref sl) (pure (n:Int))) Q E s:=by
 obtain⟨os,hos,hcs,hds⟩:=id hs;unfold Builtin.Slice.sliceApplied Builtin.Slice.sliceFields;refine wpAny_bind (wpAny_bind (wpAny_field hos hds (x:=vl) rfl (wpAny_bind (wpAny_field hos hds (x:=vu) rfl (wpAny_bind (wpAny_field hos hds (x:=.none) rfl (wpAny_pure ?_)))))));refine wpAny_bind (slicePart_none ?_);show wpAny _ _ (if ((1:Int) == 0)=true then _ else _) _ _ s;rw[if_neg (by decide)];refine wpAny_bind (zb2 pl (wpAny_bind (zb2 pu (wpAny_bind (wpAny_pure ?_)))));show wpAny _ _ (match Builtin.Slice.sliceAdjust lo hi 1 (n:Int) with |(lo,hi)=>pure (lo,(1:Int),Builtin.Slice.slicePlaces lo hi 1)) _ _ s;rw[zgw lo hi n];show wpAny _ _ (pure (((sIx n 0 lo:Nat):Int),(1:Int),Builtin.Slice.slicePlaces ((sIx n 0 lo:Nat):Int) ((sIx n n hi:Nat):Int) 1)) _ _ s;rw[zgx];exact wpAny_pure h
theorem zk6(xs:Array Value)(i k:Nat):((List.range k).filterMap λ(m:Nat)=>xs[((i:Int)+(m:Int) * 1).toNat]?).toArray=((xs.toList.drop i).take k).toArray:=by
 have e:(λ(m:Nat)=>xs[((i:Int)+(m:Int) * 1).toNat]?)=λm=>xs[i+m]?:=by
  funext m
  have:((i:Int)+(m:Int) * 1).toNat=i+m:=by omega
  rw[this]
 rw[e];have:=pick_run xs i k;rw[List.filterMap_map]at this;have e2:((λx=>xs[x]?) ∘ λx=>i+x)=λm=>xs[i+m]?:=rfl;rw[e2]at this;rw[this]
theorem getItem_tuple_cut{t sl:Addr}{items:Array Value}{vl vu:Value}{lo hi:Option Int}{Q:Value->Shared->Prop}(ht:IsTup s.heap t items)(hs:s.heap.IsSliceOf sl vl vu .none)(pl:IsPart vl lo)(pu:IsPart vu hi)
  (hw:¬ (sIx items.size 0 lo=0/\sIx items.size items.size hi=items.size))
  (h:Q (.ref s.heap.objs.size) { s with heap:=s.heap.push { cls:=.type "tuple",data:=.seq ((items.toList.drop (sIx items.size 0 lo)).take (sIx items.size items.size hi-sIx items.size 0 lo)).toArray } })
  (hsz:items.size<=sizeLine):wpAny (model prog w) A (getItem (.ref t) (.ref sl)) Q E s:=by
 have htake:sizeOk (.seq ((items.toList.drop (sIx items.size 0 lo)).take (sIx items.size items.size hi-sIx items.size 0 lo)).toArray):=by
  show((items.toList.drop (sIx items.size 0 lo)).take (sIx items.size items.size hi-sIx items.size 0 lo)).toArray.size<=sizeLine;rw[List.size_toArray,List.length_take,List.length_drop,Array.length_toList];omega
 have hj:sIx items.size items.size hi<=items.size:=zqc _ _ (Nat.le_refl _) hi;obtain⟨os,hos,hcs,hds⟩:=id hs;have hTs:s.TypeIs (.ref sl) "slice" :=⟨os,hos,hcs⟩
 unfold getItem
 try with_reducible refine wpAny_holding ?_
 first|refine wpAny_bind (wpAny_pure ?_)|skip
 refine wpAny_bind (wpAny_sequenceKey ht.typeIs (by decide) ?_);refine wpAny_bind (wpAny_callSpecial?_slot (name:=Str.ofString "__getitem__") ht.typeIs PyProof.Rows.slot_tuple_getitem
  (wpAny_call_entry PyProof.Rows.slot_tuple_getitem ht.typeIs entry_tuple_getitem ?_ (args_tuple_getitem _ _)))
 show wpAny _ _ (Builtin.Tuple.tupleItemsOf (.ref t) >>= _) _ _ s;refine wpAny_bind (tupleItemsOf_ ht ?_);refine wpAny_bind (wpAny_typeOf hTs ?_);rw[if_pos (by decide)];refine wpAny_bind (sliceApplied_gen hs pl pu ?_);have hno:¬ ((((sIx items.size 0 lo:Nat):Int) == 0 && (1:Int) == 1 && (sIx items.size items.size hi-sIx items.size 0 lo) == items.size)=true):=by
  intro q;rw[Bool.and_eq_true,Bool.and_eq_true]at q;have q1:((sIx items.size 0 lo:Nat):Int)=0:=eq_of_beq q.1.1;have q2:sIx items.size items.size hi-sIx items.size 0 lo=items.size:=eq_of_beq q.2;exact hw ⟨by omega,by omega⟩
 show wpAny _ _ (if (((sIx items.size 0 lo:Nat):Int) == 0 && (1:Int) == 1 && (sIx items.size items.size hi-sIx items.size 0 lo) == items.size)=true then _ else _) _ _ s;rw[if_neg hno,zk6]
 first
  |exact wpAny_bind (m:=Builtin.Tuple.tupleExact _) (wpAny_newObj_type (wpAny_pure ⟨_,rfl,wpAny_pure h⟩) htake)
  |exact wpAny_bind (m:=Builtin.Tuple.tupleExact _) (wpAny_newObj_type (wpAny_bind (wpAny_pure (wpAny_pure ⟨_,rfl,wpAny_pure h⟩))) htake)
  |exact wpAny_bind (wpAny_bind (m:=Builtin.Tuple.tupleExact _) (wpAny_newObj_type (wpAny_pure (wpAny_pure ⟨_,rfl,wpAny_pure h⟩)) htake))
  |exact wpAny_bind (wpAny_bind (m:=Builtin.Tuple.tupleExact _) (wpAny_newObj_type (wpAny_pure ⟨_,rfl,wpAny_pure h⟩) htake))
end
end HT
namespace L2
open PySem PySem.Spec PyProof.Rows
abbrev TO:=St->Hp->(Option Int->Hp->Prop)->Prop
def PO(X:Cx)(e:Option Expr)(t:TO):Prop :=
 ∀(pins:List (Addr×Obj)) (s:Shared) (σ:St) (H:Hp) (Q:Option Int->Hp->Prop),Inv X pins σ H s->t σ H Q ->
  wpAny (model X.prog X.w) X.A (evalPart e X.env) (λu s'=>∃o H',Inv X pins σ H' s'/\IsPart u o/\Q o H') X.xe s
def znn:TO:=λ_ H Q=>Q none H
def zsm(t:TE):TO:=λσ H Q=>t σ H λx H1=>∃i,x=.int i/\Q (some i) H1
theorem v3{ns:List Int}:∀{us:List Value},Vals (ns.map V.int) us->IntsAre us ns:=by
 induction ns with
 |nil=>intro us r;rw[List.map_nil]at r;cases r;exact .nil
 |cons n ns ih=>
  intro us r;rw[List.map_cons]at r
  cases r with
  |cons r1 r2=>
   obtain⟨t,e⟩:=r1;subst e;exact .cons n t (ih r2)
section
variable {X:Cx}{e:Expr}{te:TE}{lo hi:Option Expr}{tl th:TO}{pos p2:Pos}
theorem zno:PO X none znn:=by
 intro pins s σ H Q I h;rw[evalPart_none];exact wpAny_pure ⟨none,H,I,.none,h⟩
theorem znp(h:PE X e te):PO X (some e) (zsm te):=by
 intro pins s σ H Q I hw;rw[evalPart_some];refine thn (h pins s σ H _ I hw) λu s1 ⟨x,H1,I1,r1,q1⟩=>?_;obtain⟨i,rfl,q⟩:=q1;obtain⟨t,rfl⟩:=r1;exact⟨some i,H1,I1,.int i t,q⟩
def SlR(X:Cx)(r:V->Option Int->Option Int->Hp->VK->Prop):Prop :=
 ∀(pins:List (Addr×Obj)) (s:Shared) (σ:St) (H:Hp) (x:V) (v vl vu:Value) (lo hi:Option Int) (sl:Addr) (Q:VK),Inv X pins σ H s->RelV x v->s.heap.IsSliceOf sl vl vu .none->IsPart vl lo->IsPart vu hi->r x lo hi H Q ->
  ∃T id,typeLookup (.type T) "__getitem__" = pure (some (.builtin id))/\s.TypeIs v T/\wpAny (model X.prog X.w) X.A (getItem v (.ref sl)) (EP X pins σ Q) X.xe s
theorem SlR.or{r r':V->Option Int->Option Int->Hp->VK->Prop}(h:SlR X r)(h':SlR X r'):SlR X (λx lo hi H Q=>r x lo hi H Q\/r' x lo hi H Q):=by
 intro pins s σ H x v vl vu lo hi sl Q I rx hs pl pu q;rcases q with q|q
 ·exact h pins s σ H x v vl vu lo hi sl Q I rx hs pl pu q
 ·exact h' pins s σ H x v vl vu lo hi sl Q I rx hs pl pu q
def tSl(r:V->Option Int->Option Int->Hp->VK->Prop)(te:TE)(tl th:TO):TE:=λσ H Q=>te σ H λx H1=>tl σ H1 λl H2=>th σ H2 λu H3=>r x l u H3 Q
theorem zfl{r:V->Option Int->Option Int->Hp->VK->Prop}(hr:SlR X r)(he:PE X e te)(hl:PO X lo tl)(hu:PO X hi th):PE X (.Subscript e (.Slice lo hi none p2) pos) (tSl r te tl th):=by
 intro pins s σ H Q I h;refine Subscript_ (thn (he pins s σ H _ I h) λv s1 ⟨x,H1,I1,r1,q1⟩=>?_);refine wpAny_Slice (thn (hl pins s1 σ H1 _ I1 q1) λvl s2 ⟨l,H2,I2,pl,q2⟩=>thn (hu pins s2 σ H2 _ I2 q2) λvu s3 ⟨u,H3,I3,pu,q3⟩=>?_);rw[evalPart_none];refine wpAny_pure ?_;have I4:Inv X pins σ H3 { s3 with heap:=s3.heap.push { cls:=.type "slice",data:=.fields #[vl,vu,.none] } }:=I3.kept (t':=s3.toks) λb ob q=>Heap.get?_push_of_some _ q;obtain⟨T,id,hT,ht,hg⟩:=hr pins { s3 with heap:=s3.heap.push { cls:=.type "slice",data:=.fields #[vl,vu,.none] } } σ H3 x v vl vu l u s3.heap.objs.size Q I4 r1 (Heap.IsSliceOf.new ..) pl pu q3;show wpAny (model X.prog X.w) X.A (subscriptTail e (.Slice lo hi none p2) v (.ref s3.heap.objs.size)) (EP X pins σ Q) X.xe { s3 with heap:=s3.heap.push { cls:=.type "slice",data:=.fields #[vl,vu,.none] } };exact tail_any (ops:=[.ref s3.heap.objs.size,v]) ht hT hg (by with_unfolding_all rfl)
def zcw(xs:List V)(lo hi:Option Int):List V:=(xs.drop (HT.sIx xs.length 0 lo)).take (HT.sIx xs.length xs.length hi-HT.sIx xs.length 0 lo)
theorem zbj(xs:List V)(lo hi:Option Int):(zcw xs lo hi).length<=xs.length:=by
 unfold zcw;rw[List.length_take,List.length_drop];omega
def ztx(K:PySem.W.Frag):V->Option Int->Option Int->Hp->VK->Prop:=λx lo hi H Q=>∃a xs,x=.ref a/\SqT K H a xs /\
 ¬ (HT.sIx xs.length 0 lo=0/\HT.sIx xs.length xs.length hi=xs.length)/\∀p,H p=none->Q (.ref p) (upd H p (.tup (zcw xs lo hi)))
theorem zqd:SlR X (ztx X.K):=by
 intro pins s σ H x v vl vu lo hi sl Q I rx hs pl pu h;obtain⟨a,xs,rfl,hx,hw,q⟩:=h
 cases rx;obtain⟨its,r,ht,hz⟩:=I.tuple hx;have hlen:its.toArray.size=xs.length:=by rw[List.size_toArray];exact r.length.symm
 refine⟨"tuple",_,PyProof.Rows.slot_tuple_getitem.lookup,ht.typeIs,?_⟩;refine HT.getItem_tuple_cut ht hs pl pu (by rw[hlen];exact hw) ?_ (by rw[hlen];exact hz);rw[hlen];refine⟨.ref s.heap.objs.size,_,I.laid (t':=s.toks) (o:=.tup (zcw xs lo hi)) (λb ob q=>Heap.get?_push_of_some _ q) (Nat.le_refl _) ?_,rfl,q _ (I.hok.fresh (Nat.le_refl _))⟩;exact⟨Nat.le_trans (zbj xs lo hi) hz,_,(r.drop (HT.sIx xs.length 0 lo)).take (HT.sIx xs.length xs.length hi-HT.sIx xs.length 0 lo),TupD.new _ _⟩
theorem Vals.nil_iff{xs:List V}{us:List Value}(r:Vals xs us):us = []↔xs = []:=by
 cases r with
 |nil=>simp
 |cons _ _=>simp
end
def ixN(n:Nat)(i:Int):Option Nat:=if 0<=i then (if i<n then some i.toNat else none) else if -(n:Int)<=i then some (i+n).toNat else none
def atI{α:Type}(xs:List α)(i:Int):Option α:=(ixN xs.length i).bind λj=>xs[j]?
theorem zh6{n:Nat}{i:Int}{j:Nat}(h:ixN n i=some j):seqIndex? i n=some j/\j<n/\-(n:Int)<=i/\i<n:=by
 unfold ixN at h
 by_cases h0:0<=i
 ·rw[if_pos h0]at h
  by_cases h1:i<n
  ·rw[if_pos h1]at h;have e:i.toNat=j:=Option.some.inj h;exact⟨by rw[seqIndex_of h0 h1,e],by omega,by omega,h1⟩
  ·rw[if_neg h1]at h;cases h
 ·rw[if_neg h0]at h
  by_cases h1 : -(n:Int)<=i
  ·rw[if_pos h1]at h;have e:(i+n).toNat=j:=Option.some.inj h;exact⟨by rw[seqIndex_neg (by omega) h1,e],by omega,h1,by omega⟩
  ·rw[if_neg h1]at h;cases h
theorem zd5{α:Type}{xs:List α}{i:Int}{v:α}(h:atI xs i=some v):∃j,seqIndex? i xs.length=some j/\xs[j]?=some v/\j<xs.length/\-(xs.length:Int)<=i/\i<xs.length:=by
 unfold atI at h
 cases e:ixN xs.length i with
 |none=>rw[e]at h;cases h
 |some j=>
  rw[e]at h;obtain⟨h1,h2,h3,h4⟩:=zh6 e;exact⟨j,h1,h,h2,h3,h4⟩
theorem h7{α:Type}{xs:List α}{j:Nat}{v:α}(h:xs[j]?=some v):atI xs (j:Int)=some v:=by
 have hj:j<xs.length:=(List.getElem?_eq_some_iff.mp h).1;have e:ixN xs.length (j:Int)=some j:=by
  unfold ixN;rw[if_pos (by omega),if_pos (by omega)];simp
 unfold atI;rw[e];exact h
theorem zfm{α:Type}(xs:List α)(v:α):atI (xs ++ [v]) (-1)=some v:=by
 have hl:(xs ++ [v]).length=xs.length+1:=by simp
 have e:ixN (xs ++ [v]).length (-1)=some xs.length:=by
  unfold ixN;rw[hl,if_neg (by decide),if_pos (by omega)];congr 1;omega
 unfold atI;rw[e];show(xs ++ [v])[xs.length]?=some v;simp
def zd6(b:Expr):Prop:=∀o i,subscripted b false o i=operate [o,i] (getItem o i)
def IxR(X:Cx)(r:R2):Prop :=
 ∀(value slice:Expr) (pins:List (Addr×Obj)) (s:Shared) (σ:St) (H:Hp) (x y:V) (v u:Value) (Q:VK),Inv X pins σ H s->RelV x v->RelV y u->r x y H Q ->
  subscripted slice false v u=operate [v,u] (getItem v u)->wpAny (model X.prog X.w) X.A (subscriptTail value slice v u) (EP X pins σ Q) X.xe s
def MtR(X:Cx)(id:String)(r:V->List V->Hp->VK->Prop):Prop :=
 ∀(pins:List (Addr×Obj)) (s:Shared) (σ:St) (H:Hp) (x:V) (xs:List V) (v:Value) (us:List Value) (Q:VK),Inv X pins σ H s->RelV x v->Vals xs us->r x xs H Q ->
  wpAny (model X.prog X.w) X.A (call (.builtin id) (v::us)) (EP X pins σ Q) X.xe s
section
variable {X:Cx}{a b:Expr}{ta tb:TE}{pos:Pos}
theorem IxR.or{r r':R2}(h:IxR X r)(h':IxR X r'):IxR X (λx y H Q=>r x y H Q\/r' x y H Q):=by
 intro value slice pins s σ H x y v u Q I rx ry q hs;rcases q with q|q
 ·exact h value slice pins s σ H x y v u Q I rx ry q hs
 ·exact h' value slice pins s σ H x y v u Q I rx ry q hs
theorem zaa{r:R2}(hr:IxR X r)(ha:PE X a ta)(hb:PE X b tb)(hs:zd6 b):PE X (.Subscript a b pos) (tOp r ta tb):=by
 intro pins s σ H Q I h;exact Subscript_ (zse ha hb I h λv u s2 x y H2 I2 rx ry q=>hr a b pins s2 σ H2 x y v u Q I2 rx ry q (hs _ _))
def zsn(K:PySem.W.Frag):R2:=λx y H Q=>∃p xs i v,x=.ref p/\y=.int i/\SqL K H p xs/\atI xs i=some v/\Q v H
def zso(K:PySem.W.Frag):R2:=λx y H Q=>∃p xs i v,x=.ref p/\y=.int i/\SqT K H p xs/\atI xs i=some v/\Q v H
def zsp:R2:=λx y H Q=>∃z i c,x=.str z/\y=.int i/\z.length<=sizeLine/\atI z.cps.toList i=some c/\Q (.str ⟨#[c]⟩) H
theorem ix_list:IxR X (zsn X.K):=by
 intro value slice pins s σ H x y v u Q I rx ry h hs;obtain⟨p,xs,i,z,rfl,rfl,hq,he,q⟩:=h
 cases rx;obtain⟨t,rfl⟩:=ry;obtain⟨its,r,pl,hz⟩:=I.list hq;obtain⟨j,h1,h2,h3,h4,h5⟩:=zd5 he;obtain⟨w,ew,rw'⟩:=r.get h2;have hl:=r.length;have hn:=jr;have fin:EP X pins σ Q w s:=⟨z,H,I,rw',q⟩
 by_cases h0:0<=i
 ·have hj:i.toNat=j:=by
   rw[seqIndex_of h0 h5]at h1;exact Option.some.inj h1
  exact item_listR pl.isList h0 (by omega) (by rw[hj];simpa using ew) fin hs
 ·have hj:(i+(its.toArray.size:Int)).toNat=j:=by
   rw[seqIndex_neg (by omega) h4]at h1;rw[List.size_toArray,<-hl];exact Option.some.inj h1
  exact subscriptTail_builtinR (x:=w) pl.isList.typeIs slot_list_getitem.lookup
   (wpAny_getItem_list_neg (Q:=λr s'=>r=w/\EP X pins σ Q r s') pl.isList (by omega) (by rw[List.size_toArray] <;> omega) (by omega) (by rw[hj];simpa using ew) ⟨rfl,fin⟩) hs
theorem ix_tup:IxR X (zso X.K):=by
 intro value slice pins s σ H x y v u Q I rx ry h hs;obtain⟨p,xs,i,z,rfl,rfl,hq,he,q⟩:=h
 cases rx;obtain⟨t,rfl⟩:=ry;obtain⟨its,r,pl,hz⟩:=I.tuple hq;obtain⟨j,h1,h2,h3,h4,h5⟩:=zd5 he;obtain⟨w,ew,rw'⟩:=r.get h2;have hl:=r.length;have hn:=jr;have fin:EP X pins σ Q w s:=⟨z,H,I,rw',q⟩
 exact subscriptTail_builtinR (x:=w) pl.typeIs slot_tuple_getitem.lookup
  (getItem_tuple (j:=j) (Q:=λr s'=>r=w/\EP X pins σ Q r s') pl (by omega) (by omega) (by rw[List.size_toArray,<-hl];exact h1) (by simpa using ew) ⟨rfl,fin⟩) hs
theorem zqe:IxR X zsp:=by
 intro value slice pins s σ H x y v u Q I rx ry h hs;obtain⟨z,i,c,rfl,rfl,hz,he,q⟩:=h;obtain⟨t,rfl⟩:=rx;obtain⟨t',rfl⟩:=ry;obtain⟨j,h1,h2,h3,h4,h5⟩:=zd5 he;have hl:z.cps.toList.length=z.length:=by simp[Str.length]
 rw[hl]at h1 h4 h5;have hn:=jr;exact tail_any (typeIs_str s z t) slot_str_getitem.lookup (getItem_str (c:=c) (by
  have e1:decide (i < -(2 ^ 63:Int))=false:=decide_eq_false (by omega);have e2:decide (i ≥ 2 ^ 63)=false:=decide_eq_false (by omega);rw[e1,e2,Bool.or_false]) (by rw[h1];simpa using h2) ⟨.str ⟨#[c]⟩,H,I.tok _,⟨_,rfl⟩,q⟩) hs
def rIx(K:PySem.W.Frag):R2:=λx y H Q=>zsn K x y H Q\/zso K x y H Q\/zsp x y H Q
theorem zqf:IxR X (rIx X.K):=ix_list.or (ix_tup.or zqe)
theorem zgy(its:List Value)(n j:Nat)(u:Value):Obj.mapSeq (·.setIfInBounds j u) { cls:=.type "list",data:=.seq its.toArray n } = { cls:=.type "list",data:=.seq (its.set j u).toArray n }:=by
 simp[Obj.mapSeq]
theorem Inv.lst{pins:List (Addr×Obj)}{σ:St}{H:Hp}{s:Shared}{p:Addr}{xs:List V}(I:Inv X pins σ H s)(h:H p=some (.lst xs)):
  ∃(its:List Value) (n:Nat),Vals xs its/\s.heap.get? p=some { cls:=.type "list",data:=.seq its.toArray n }/\xs.length<=sizeLine:=by
 obtain⟨z,its,n,r,e⟩:=I.hok p _ h;exact⟨its,n,r,e,z⟩
theorem Inv.lstUpd{pins:List (Addr×Obj)}{σ:St}{H:Hp}{s:Shared}{p:Addr}{xs ys:List V}{its its':List Value}{n n':Nat}{f:Obj->Obj}(I:Inv X pins σ H s)(h:H p=some (.lst xs))
  (ho:s.heap.get? p=some { cls:=.type "list",data:=.seq its.toArray n }) (hf:f { cls:=.type "list",data:=.seq its.toArray n } = { cls:=.type "list",data:=.seq its'.toArray n' }) (r:Vals ys its') (hz:ys.length<=sizeLine) (t:Nat) :
  Inv X pins σ (upd H p (.lst ys)) { s with heap:=s.heap.update p f,toks:=t }:=by
 have e:(s.heap.update p f).get? p=some { cls:=.type "list",data:=.seq its'.toArray n' }:=by
  rw[Heap.get?_update_self f ho (by rw[hf] <;> rfl),hf]
 refine I.write (x:=p) (e:=p) (by rw[h];trivial) (.inl rfl) (λb u hb q=>(Heap.get?_update_other _ _ (Ne.symm hb)).trans q) ⟨_,e⟩ ?_;exact⟨hz,its',n',r,e⟩
def zsq:V->V->V->Hp->(Hp->Prop)->Prop:=λo i v H Q=>∃p xs k j,o=.ref p/\i=.int k/\H p=some (.lst xs)/\ixN xs.length k=some j/\Q (upd H p (.lst (xs.set j v)))
theorem zb3:zsc X zsq:=by
 intro pins s σ H o i v ov iv u Q I ro ri rv h;obtain⟨p,xs,k,j,rfl,rfl,hp,hj,q⟩:=h
 cases ro;obtain⟨t,rfl⟩:=ri;obtain⟨its,n,r,ho,hz⟩:=I.lst hp;obtain⟨h1,h2,h3,h4⟩:=zh6 hj;have hl:=r.length;have hn:=jr;have I':Inv X pins σ (upd H p (.lst (xs.set j v))) { s with heap:=s.heap.update p (Obj.mapSeq (·.setIfInBounds j u)) } :=
  I.lstUpd hp ho (zgy its n j u) (r.set rv j) (by rw[List.length_set];exact hz) s.toks
 by_cases h0:0<=k
 ·have hk:k.toNat=j:=by
   rw[seqIndex_of h0 h4]at h1;exact Option.some.inj h1
  exact PySem.W.ki_setAt ho h0 (by omega) (by rw[List.size_toArray,<-hl];exact h4) (by rw[hk];exact⟨_,I',q⟩)
 ·have hk:(k+(its.toArray.size:Int)).toNat=j:=by
   rw[seqIndex_neg (by omega) h3]at h1;rw[List.size_toArray,<-hl];exact Option.some.inj h1
  exact PySem.W.ki_setBack ho (by omega) (by rw[List.size_toArray,<-hl];exact h3) (by omega) (by rw[hk];exact⟨_,I',q⟩)
theorem zd7(lo hi:Option Int)(n:Nat):(sliceBounds lo hi none n).1=((HT.sIx n 0 lo:Nat):Int)/\(sliceBounds lo hi none n).2.1=((HT.sIx n n hi:Nat):Int)/\(sliceBounds lo hi none n).2.2=1:=by
 refine⟨?_,?_,rfl⟩
 ·cases lo with
  |none=>simp[sliceBounds,HT.sIx]
  |some i=>
   simp only[sliceBounds,HT.sIx,Option.getD_none,show(1:Int) > 0 by decide,if_true]
   by_cases h:i<0
   ·simp only[h,if_true] <;> omega
   ·simp only[h,if_false] <;> omega
 ·cases hi with
  |none=>simp[sliceBounds,HT.sIx]
  |some i=>
   simp only[sliceBounds,HT.sIx,Option.getD_none,show(1:Int) > 0 by decide,if_true]
   by_cases h:i<0
   ·simp only[h,if_true] <;> omega
   ·simp only[h,if_false] <;> omega
theorem zcx(its:List Value)(lo hi:Option Int):slicePick its.toArray lo hi none=((its.drop (HT.sIx its.length 0 lo)).take (HT.sIx its.length its.length hi-HT.sIx its.length 0 lo)).toArray:=by
 obtain⟨h1,h2,h3⟩:=zd7 lo hi its.toArray.size;unfold slicePick;rw[h1,h2,h3];simp only[sliceRange_one,pick_run,List.size_toArray] <;> rfl
def zty(K:PySem.W.Frag):V->Option Int->Option Int->Hp->VK->Prop:=λx lo hi H Q=>∃a xs,x=.ref a/\SqL K H a xs/\∀p,H p=none->Q (.ref p) (upd H p (.lst (zcw xs lo hi)))
theorem zh7:SlR X (zty X.K):=by
 intro pins s σ H x v vl vu lo hi sl Q I rx hs pl pu h;obtain⟨a,xs,rfl,hx,q⟩:=h
 cases rx;obtain⟨its,r,ht,hz⟩:=I.list hx;have hlen:=r.length;refine⟨"list",_,slot_list_getitem.lookup,ht.isList.typeIs,?_⟩;refine wpAny_getItem_list_slice ht.isList hs pl pu .none (by simp) ?_ (by rw[List.size_toArray] <;> omega);rw[zcx,<-hlen];refine⟨.ref s.heap.objs.size,_,I.laid (t':=s.toks) (o:=.lst (zcw xs lo hi)) (λb ob q=>Heap.get?_push_of_some _ q) (Nat.le_refl _) ?_,rfl,q _ (I.hok.fresh (Nat.le_refl _))⟩;exact⟨Nat.le_trans (zbj xs lo hi) hz,_,0,(r.drop (HT.sIx xs.length 0 lo)).take (HT.sIx xs.length xs.length hi-HT.sIx xs.length 0 lo),Heap.get?_push_size _ rfl⟩
theorem zd8:wy X (.builtin "len") (λxs H Q=>∃p ys,xs = [.ref p]/\(SqL X.K H p ys\/SqT X.K H p ys)/\Q (.int ys.length) H):=by
 intro pins s σ H xs us Q I r h;obtain⟨p,ys,rfl,hq,q⟩:=h;obtain⟨u,rfl,rx⟩:=zfj r
 cases rx;have hn:=jr;rcases hq with hq|hq
 ·obtain⟨its,r',pl,hz⟩:=I.list hq;have hlen:=r'.length;exact Calls.call_len_list pl.isList (by simp only[List.size_toArray] <;> omega) ⟨.int ys.length,H,I.tok _,⟨s.toks+1,by rw[List.size_toArray,hlen]⟩,q⟩
 ·obtain⟨its,r',pl,hz⟩:=I.tuple hq;have hlen:=r'.length;exact len_tuple pl (by simp only[List.size_toArray] <;> omega) ⟨.int ys.length,H,I.tok _,⟨s.toks+1,by rw[List.size_toArray,hlen]⟩,q⟩
theorem zcy:wy X (.type "tuple") (λxs H Q=>∃p ys,xs = [.ref p]/\((SqL X.K H p ys/\∀l,H l=none->Q (.ref l) (upd H l (.tup ys)))\/(SqT X.K H p ys/\Q (.ref p) H))):=by
 intro pins s σ H xs us Q I r h;obtain⟨p,ys,rfl,h⟩:=h;obtain⟨u,rfl,rx⟩:=zfj r
 cases rx;rcases h with⟨hq,q⟩ |⟨hq,q⟩
 ·obtain⟨its,r',pl,hz⟩:=I.list hq;have hlen:=r'.length;refine call_tuple_list pl.isList (λh' kp=>?_) (by simp only[List.size_toArray] <;> omega);have I1:Inv X pins σ H { s with heap:=h' }:=I.kept (t':=s.toks) kp
  have I2:Inv X pins σ (upd H h'.objs.size (.tup ys)) { s with heap:=h'.push { cls:=.type "tuple",data:=.seq its.toArray } } :=
   I1.laid (t':=s.toks) (λb o e=>Heap.get?_push_of_some _ e) (Nat.le_refl _) (show ObjOk X.prog X.w _ _ _ (.tup ys) from⟨hz,its,r',TupD.new _ _⟩)
  exact⟨.ref h'.objs.size,_,I2,rfl,q _ (I1.hok.fresh (Nat.le_refl _))⟩
 ·obtain⟨its,r',pl,hz⟩:=I.tuple hq;exact call_tuple_same pl ⟨.ref p,H,I,rfl,q⟩
def tyV(K:PySem.W.Frag)(T:String)(x:V)(H:Hp):Prop:=match x with
 |.str _=>T = "str"
 |.int _=>T = "int"
 |.ref p=>(T = "list" /\ ∃xs,SqL K H p xs)\/(T = "tuple" /\ ∃xs,SqT K H p xs) \/
   (T = "dict" /\((∃kvs,H p=some (.dK kvs))\/∃kvs,H p=some (.dT kvs)))\/(T = "set" /\ ∃S n,H p=some (.set S n))
 |_=>False
theorem zqg{pins:List (Addr×Obj)}{σ:St}{H:Hp}{s:Shared}{T:String}{x:V}{v:Value}(I:Inv X pins σ H s)(r:RelV x v)(ty:tyV X.K T x H):
  s.TypeIs v T/\∀a,v=.ref a->∃ob,s.heap.get? a=some ob/\ob.dict=none:=by
 cases x with
 |str z=>
  obtain⟨t,rfl⟩:=r
  cases (show T = "str" from ty);exact⟨typeIs_str s z t,λ_ e=>nomatch e⟩
 |int i=>
  obtain⟨t,rfl⟩:=r
  cases (show T = "int" from ty);exact⟨typeIs_int s i t,λ_ e=>nomatch e⟩
 |ref p=>
  cases r;rcases ty with⟨rfl,xs,hq⟩ |⟨rfl,xs,hq⟩ |⟨rfl,hk⟩ |⟨rfl,S,n,hk⟩
  ·obtain⟨its,_,pl,_⟩:=I.list hq;refine⟨pl.isList.typeIs,λa e=>?_⟩
   cases e;obtain⟨o,n,e,c,hd,_⟩:=pl;exact⟨o,e,hd⟩
  ·obtain⟨its,_,pl,_⟩:=I.tupleD hq;refine⟨pl.isTup.typeIs,λa e=>?_⟩
   cases e;obtain⟨o,e,_,_,hd⟩:=pl;exact⟨o,e,hd⟩
  ·have z:∃o,s.heap.get? p=some o/\o.ExactDict:=by
    rcases hk with⟨kvs,hk⟩ |⟨kvs,hk⟩
    ·obtain⟨_,_,_,_,o,_,_,e,ex,_⟩:=I.hok p _ hk;exact⟨o,e,ex⟩
    ·obtain⟨_,_,_,_,o,_,_,e,ex,_⟩:=I.hok p _ hk;exact⟨o,e,ex⟩
   obtain⟨o,e,ex⟩:=z;refine⟨⟨o,e,ex.1⟩,λa e2=>?_⟩
   cases e2;exact⟨o,e,ex.2.1⟩
  ·obtain⟨o,_,_,_,e,ex,_⟩:=I.hok p _ hk;refine⟨⟨o,e,ex.1⟩,λa e2=>?_⟩
   cases e2;exact⟨o,e,ex.2.1⟩
 |_=>exact False.elim ty
def tBM(K:PySem.W.Frag)(T:String)(r:V->List V->Hp->VK->Prop)(to:TE)(t:TA):TE:=λσ H Q=>to σ H λx H1=>tyV K T x H1/\t σ H1 λxs H2=>r x xs H2 Q
variable {o e:Expr}{es:List Expr}{to:TE}{t:TA}{name:Str}{apos cpos:Pos}{T id:String}{r:V->List V->Hp->VK->Prop}
theorem zk7(pa:PlainAttrs T)(slot:Slot T name id)(hty:typeOf (.builtin id)=pure (.type "method_descriptor"))(hm:MtR X id r)(ho:PE X o to)(ha:PA X (e::es) t)
  (hbase:attributeBase o name X.env (eval o X.env)=eval o X.env:=by rfl)
  (hfew:((backTo cpos (starEach (e::es) X.env)).all (λx=>!x.1) && (backToKw cpos (keywordEach [] X.env)).all (λx=>x.1.isSome)
   && decide ((e::es).length+([]:List Keyword).length+(if ([]:List Keyword).isEmpty then 0 else 1)<30))=true:=by rfl)
  (hline:(apos.endLine == cpos.line)=true:=by rfl) (hs:starEach (e::es) X.env=(false,eval e X.env)::starEach es X.env:=by rfl) (hplain:(backTo cpos (starEach es X.env)).any (·.1)=false:=by rfl) :
  PE X (.Call (.Attribute o name apos) (e::es) [] cpos) (tBM X.K T r to t):=by
 intro pins s σ H Q I h;refine wpAny_Call_method_late hbase hfew hline rfl (thn (ho pins s σ H _ I h) λv s1 ⟨x,H1,I1,r1,ty,q1⟩=>?_);obtain⟨h1,h2⟩:=zqg I1 r1 ty;refine⟨T,id,pa,slot,hty,h1,h2,?_⟩;have hA:=ha cpos pins s1 σ H1 _ I1 q1;rw[hs]at hA ⊢;refine Calls.callWith_builtin (by show(false ||(backTo cpos (starEach es X.env)).any (·.1))=false;rw[hplain] <;> rfl) (Calls.evalArgs_plain ?_);exact thn hA λus s2 ⟨vs,H2,I2,r2,q2⟩=>hm pins s2 σ H2 x vs v us Q I2 r1 r2 q2
end
def MtM(X:Cx)(id:String)(r:V->List V->Hp->VK->Prop):Prop :=
 ∀(pins:List (Addr×Obj)) (s:Shared) (σ:St) (H:Hp) (x:V) (xs:List V) (v:Value) (us:List Value) (Q:VK),Inv X pins σ H s->RelV x v->Vals xs us->r x xs H Q ->
  wpAny (model X.prog X.w) X.A (call (.builtin id) (v::us)) (EP X pins σ Q) X.xe s
theorem Vals.one{x:V}{us:List Value}(h:Vals [x] us):∃u,us = [u]/\RelV x u:=by
 cases h with
 |cons r h=>cases h;exact⟨_,rfl,r⟩
theorem Vals.two{x y:V}{us:List Value}(h:Vals [x,y] us):∃u v,us = [u,v]/\RelV x u/\RelV y v:=by
 cases h with
 |cons r h=>obtain⟨v,rfl,q⟩:=Vals.one h;exact⟨_,v,rfl,r,q⟩
theorem Vals.zero:∀{us:List Value},Vals [] us->us = []
 |_,.nil=>rfl
theorem Vals.reverse{xs:List V}{us:List Value}(h:Vals xs us):Vals xs.reverse us.reverse:=by
 induction h with
 |nil=>exact .nil
 |cons r t ih=>rw[List.reverse_cons,List.reverse_cons];exact Vals.append ih (.cons r .nil)
theorem Vals.rep{xs:List V}{us:List Value}(h:Vals xs us):∀k:Nat,Vals (List.replicate k xs).flatten (List.replicate k us).flatten
 |0=>.nil
 |k+1=>by
  rw[List.replicate_succ,List.replicate_succ,List.flatten_cons,List.flatten_cons];exact Vals.append h (Vals.rep h k)
theorem zdd(its:List Value):∀(k:Nat) (acc:List Value),
  List.foldl (λx1 x2=>x1++x2) acc.toArray (List.replicate k its.toArray)=(acc++(List.replicate k its).flatten).toArray
 |0,acc=>by simp
 |k+1,acc=>by
  have e:acc.toArray++its.toArray=(acc++its).toArray:=by simp
  have e2:(acc++its)++(List.replicate k its).flatten=acc++(List.replicate (k+1) its).flatten:=by
   rw[List.replicate_succ,List.flatten_cons,List.append_assoc]
  rw[<-e2,<-zdd its k (acc++its),<-e,List.replicate_succ,List.foldl_cons]
section
variable {X:Cx}{pins:List (Addr×Obj)}{σ:St}{H:Hp}{s:Shared}{l b:Addr}{xs ys zs:List V}
theorem Inv.lset{its its':List Value}{n:Nat}{f:Array Value->Array Value}{t':Nat}(I:Inv X pins σ H s)(hH:H l=some (.lst xs))
  (e:s.heap.get? l=some { cls:=.type "list",data:=.seq its.toArray n }) (hf:f its.toArray=its'.toArray) (hv:Vals ys its') (hz:ys.length<=sizeLine) :
  Inv X pins σ (upd H l (.lst ys)) { s with heap:=s.heap.update l (Obj.mapSeq f),toks:=t' }:=by
 have q:=PySem.IsL.update e f;rw[hf]at q;refine I.write (x:=l) (e:=l) (by rw[hH];exact trivial) (.inl rfl) (λb' u hb hu=>(Heap.get?_update_other s.heap (Obj.mapSeq f) (Ne.symm hb)).trans hu) ⟨_,q⟩ ?_;exact⟨hz,its',_,hv,q⟩
theorem Inv.lnew{its:List Value}{t':Nat}(I:Inv X pins σ H s)(hv:Vals ys its)(hz:ys.length<=sizeLine):
  Inv X pins σ (upd H s.heap.objs.size (.lst ys)) { s with heap:=s.heap.push { cls:=.type "list",data:=.seq its.toArray },toks:=t' } :=
 I.laid (λ_ _ q=>Heap.get?_push_of_some _ q) (Nat.le_refl _) ⟨hz,its,0,hv,Heap.get?_push_size _ rfl⟩
theorem Inv.fresh(I:Inv X pins σ H s):H s.heap.objs.size=none:=I.hok.fresh (Nat.le_refl _)
theorem Inv.lstM(I:Inv X pins σ H s)(hH:H l=some (.lst xs)):xs.length<=sizeLine/\∃(its:List Value) (n:Nat),Vals xs its/\xs.length=its.length/\s.heap.get? l=some { cls:=.type "list",data:=.seq its.toArray n }:=by
 obtain⟨z,its,n,r,e⟩:=I.hok l _ hH;exact⟨z,its,n,r,r.length,e⟩
theorem zk8{n:Nat}(h:n<=sizeLine):Builtin.List.listTooLong n=false:=by
 unfold Builtin.List.listTooLong;exact decide_eq_false (by omega)
end
section
variable {X:Cx}
def znq:V->List V->Hp->VK->Prop:=λx vs H Q=>∃l xs y,x=.ref l/\vs = [y]/\H l=some (.lst xs)/\xs.length<sizeLine/\Q .non (upd H l (.lst (xs ++ [y])))
theorem za1:MtM X "list.append" znq:=by
 intro pins s σ H x vs v us Q I rx rv h;obtain⟨l,xs,y,rfl,rfl,hH,hz,q⟩:=h
 cases rx;obtain⟨u,rfl,ru⟩:=rv.one;obtain⟨z,its,n,r,hl,e⟩:=I.lstM hH;refine call_meets F.slot_list_append ⟨_,e,rfl⟩ F.entry_list_append (F.args_list_append_2 _ _) (PySem.list_append l its.toArray n u (by rw[List.size_toArray];omega)) ⟨e,?_⟩;refine⟨.non,_,I.lset (its':=its ++ [u]) hH e (by simp) (r.append (.cons ru .nil)) ?_,rfl,q⟩;rw[List.length_append,List.length_singleton];omega
theorem znr{α:Type}(xs:List α)(k:Nat):(List.replicate k xs).flatten.length=k * xs.length:=by
 induction k with
 |zero=>simp
 |succ k ih=>rw[List.replicate_succ,List.flatten_cons,List.length_append,ih,Nat.succ_mul,Nat.add_comm]
end
section
variable {prog:Program}{w:World}{A:Around}{E:Value->Shared->Prop}{s:Shared}
end
section
variable {X:Cx}
end
end L2
namespace Att
open PySem PySem.W PySem.Calls PyProof.Rows
theorem zbn{P:Params}{h:Heap}:∀(ns:List Int) (vs:List Value),WellAll P h vs (ns.map WData.int)->IntsAre vs ns:=by
 intro ns
 induction ns with
 |nil=>
  intro vs w;rw[List.map_nil]at w
  cases w;exact .nil
 |cons n ns ih=>
  intro vs w;rw[List.map_cons]at w
  cases w with
  |cons a b=>
   cases a;exact .cons _ _ (ih _ b)
theorem zjo{l:OpenLaw}{n:Nat}(hn:l.most=some n){P:Params}{h:Heap}{args:List WData}{vals:List Value}
  (hpre:l.row.toRowW.claim.pre args=true) (hwl:WellAll P h vals args) :
  ∃a vs ns,vals = [Value.ref a]/\args = [WData.list (ns.map WData.int)]/\h.get? a=some { cls:=.type "list",data:=.seq vs.toArray }/\IntsAre vs ns/\ns.length<=n:=by
 have hsh:WShape.hasAll [] args [.list .int]=true:=(pre_splitW hpre).1;have hc:l.pre.holds [] { args:=args }=true:=(pre_splitW hpre).2;obtain⟨d,r,rfl,h1,h2⟩:=hasAllW_cons hsh;obtain rfl:=hasAllW_nil h2;obtain⟨xs,rfl,h3⟩:=hasW_list h1;obtain⟨ns,rfl⟩:=items_int h3;have hlen:ns.length<=n:=by
  unfold OpenLaw.pre at hc;have h4:(WTm.not (.lt (.lit (.int (n:Int))) (.len (.arg 0)))).holds [] { args:=[.list (ns.map .int)] }=true:=by
   have h4:=(holds_andW hc).1;rw[hn]at h4;exact h4
  have h5:=condW_of h4 (w_not (w_lt w_lit (w_len_list (w_arg rfl))));rw[List.length_map]at h5;refine Nat.le_of_not_lt λq=>?_;have q':(n:Int)<((ns.length:Nat):Int):=by omega
  first
   |(rw[decide_eq_true q']at h5;exact absurd h5 (by decide))
   |(simp at h5;omega)
 cases hwl with
 |cons w1 w2=>
  cases w2
  cases w1 with
  |list ho hall=>exact⟨_,_,ns,rfl,rfl,ho,zbn ns _ hall,hlen⟩
theorem zjp(l:OpenLaw)(args:List WData):l.row.toRowW.claim.post args (.bool true) args=true :=
 postW_of (r:=l.row.toRowW) (X:=(true == true))
  (show WShape.has [] (.bool true) .bool=true by first|rfl|decide|simp[WShape.has,WShape.arms,WShape.armsAll])
  (show(WTm.eq .res (.lit (.bool true))).value [] { args:=args,res:=some (.bool true),after:=args }=some (.bool (true == true)) from w_eq_bool (w_res rfl) w_lit) rfl
theorem attach_call{l:OpenLaw}{n:Nat}{q:Program}{loose:List Str}{XP:(Str->Option Value)->Heap->Prop}{YP:World->Heap->Prop}{d:DefRec}
  (hn:l.most=some n) (hdf:d.params.defaults = [])
  (call:∀(w:World) (s₀ s₁:Shared) (mg mb:Str->Option Value) (fa:Addr) (o:Obj) (pm cd doc:Value) (a:Addr) (vs:List Value) (ns:List Int),
   Ground q loose [] XP w s₀ mg mb s₁.heap->YP w s₁.heap ->
   s₁.heap.get? fa=some o->o.data=.func (docDef d.name d.params d.body d.scope pm cd doc)->s₁.heap.CodeRec cd d.name->mg d.name=some (.ref fa) ->
   s₁.heap.get? a=some { cls:=.type "list",data:=.seq vs.toArray }->IntsAre vs ns->ns.length<=n->s₁.gens = #[] ->
   codeAny (model l.prog w) callerA (.call (.ref fa) ⟨[.ref a],[]⟩) (λr s'=>r=.ok (.ret (.bool true))/\OldK s₁.heap s'.heap/\s'.os=s₁.os/\AllBare s'.gens) s₁) :
  WalkO q loose XP YP l.row.toRowW d [] (λf vs=>PySem.call f vs):=by
 intro w s₀ s₁ mg mb G Y fa o pm cd doc dV kV ho hd hcd hD hmg hg args vals as hpre hlay hrd hwl hlo;obtain rfl:dV=.none:=Dflts.none hD hdf;obtain rfl:kV=.none:=Dflts.noKw hD;obtain⟨a,vs,ns,rfl,rfl,hobj,hints,hlen⟩:=zjo hn hpre hwl;refine enter_call (codeAny_mono (call w s₀ s₁ mg mb fa o pm cd doc a vs ns G Y ho (fd_plain hd) hcd hmg hobj hints hlen hg) λr s' hq=>?_);obtain⟨rfl,h2,h3,h4⟩:=hq;exact⟨.inl ⟨.bool true,.bool true,[],rfl,λ_=>rfl,.bool true,zjp l _,λ_=>⟨List.Pairwise.nil,λ_ hm=>(nomatch hm)⟩⟩,h2,h3,h4⟩
section
variable {prog:Program}{w:World}{A:Around}{E:Value->Shared->Prop}{s:Shared}{K:Frag}
end
end Att
namespace L2
open PySem PySem.Spec PyProof.Rows
theorem zde:∀{vs:List Value}{ns:List Int},IntsAre vs ns->Vals (ns.map V.int) vs
 |_,_,.nil=>.nil
 |_,_,.cons n t h=>.cons ⟨t,rfl⟩ (zde h)
def zqh(H:Hp):Prop:=∀b,H b=none\/∃o xs,H b=some (.frz o (.lst xs))
theorem zk9{P:Program}{w:World}{K:PySem.W.Frag}{mg mb:Str->Option Value}{CX:CXT}{k:Nat}{fa a:Addr}{fd:FuncData}{x:Str}{sp:Sp}{s₁:Shared}{vs:List Value}{ns:List Int}
  (KX:K.In s₁.heap) (hns:s₁.heap.Ns mainGlobals mg) (hb:s₁.heap.Ns builtinsNs mb) (hbb:∀x:Str,x ≠ "__name__" -> mb x=bootBuiltins x) (hlim:s₁.heap.NoLimit) (hg:s₁.gens = #[])
  (ha:s₁.heap.get? a=some { cls:=.type "list",data:=.seq vs.toArray }) (hi:IntsAre vs ns) (hl:ns.length<=sizeLine) (hr:Room k callerA)
  (F:∀base:Heap,K.In base->base.Ns mainGlobals mg->FnOk P w K mg base CX k fa fd [x] sp) (hbind:∀(s:Shared) (u:Value),BindsTo s fd ⟨[u],[]⟩ [(x,u)])
  (hsp:∀H:Hp,zqh H->SqL K H a (ns.map V.int)->sp [.ref a] H (λv _=>v=.bl true) λ_ _ _=>False)
  (hCX:∀H e s',CX [] H s₁ (λ_ _ _=>False) e s'->False) :
  codeAny (model P w) callerA (.call (.ref fa) ⟨[.ref a],[]⟩) (λr s'=>r=.ok (.ret (.bool true))/\OldK s₁.heap s'.heap/\s'.os=s₁.os/\AllBare s'.gens) s₁:=by
 have rv:=zde hi;have lenV:=hi.length
 -- from an abstract heap in which nothing but the script may be tracked
 have core:∀H:Hp,zqh H->SqL K H a (ns.map V.int)->HOk P w H s₁.heap->(∀b,H b≠none->b=a)->(H a≠none->K.lookup a=none) ->
   codeAny (model P w) callerA (.call (.ref fa) ⟨[.ref a],[]⟩) (λr s'=>r=.ok (.ret (.bool true))/\OldK s₁.heap s'.heap/\s'.os=s₁.os/\AllBare s'.gens) s₁:=by
  intro H hO hS hok hA hK;have base_of:∀{b:Addr}{o:Obj},s₁.heap.get? b=some o->H b=none->(zd1 s₁.heap H).get? b=some o:=λe n=>zkt e n;have noA:∀{b:Addr}{o:Obj}{es:Array DictEntry}{ep:Nat},s₁.heap.get? b=some o->o.data=.dict es ep->H b=none:=λ{b o es ep} e d=>by
   cases q:H b with
   |none=>rfl
   |some u=>
    have e':b=a:=hA b (by rw[q];simp);subst e';rw[ha]at e;cases e;have d':Data.seq vs.toArray _=Data.dict es ep:=d
    cases d'
  have nsK:∀{b:Addr}{m:Str->Option Value},s₁.heap.Ns b m->(zd1 s₁.heap H).Ns b m:=λ{b m} ⟨o,es,ep,e,d,r⟩=>⟨o,es,ep,base_of e (noA e d),d,r⟩
  have hKb:K.In (zd1 s₁.heap H):=λb o e=>base_of (KX b o e) (by
   cases q:H b with
   |none=>rfl
   |some u=>
    have e':b=a:=hA b (by rw[q];simp);subst e';rw[hK (by rw[q];simp)]at e;cases e)
  have hM:Mod K mg (zd1 s₁.heap H):=⟨hKb,nsK hns,⟨mb,nsK hb,hbb⟩,let ⟨mc,h1,h2⟩:=hlim;⟨mc,nsK h1,h2⟩⟩
  have e0:Env0 P w K mg (zd1 s₁.heap H) callerA [] s₁ H:=⟨rfl,hM,λb o e=>znd e,Nat.le_of_eq (zjf _ _),trivial,λb hb=>absurd (show b∈([]:List Addr) from hb) (by simp),hok,.of_eq hg⟩
  refine codeAny_mono ((F _ hKb (nsK hns)).run callerA [] s₁ H ⟨[.ref a],[]⟩ [.ref a] [.ref a] _ _ hr e0 (hbind s₁ (.ref a)) (.cons rfl .nil) (hsp H hO hS)) λr s' h=>?_
  cases r with
  |error e=>exact(hCX H e s' h).elim
  |ok fl=>
   cases fl with
   |next=>exact False.elim h
   |brk=>exact False.elim h
   |cont=>exact False.elim h
   |ret u=>
    obtain⟨v,H',os,bare,un,hok',r',q⟩:=h;have q':v=.bl true:=q;subst q';obtain rfl:u=Value.bool true:=r';refine⟨rfl,OldK.of_keep λb o e=>?_,os,bare⟩
    cases q:H b with
    |none=>exact un.keep b o e q (by intro z;exact absurd (show b∈([]:List Addr) from z) (by simp)) (by simp)
    |some u=>
     rcases hO b with z |⟨ob,xs,z⟩
     ·rw[q]at z;cases z
     ·have z2:=un.frzs b ob _ z;obtain⟨e1,_⟩:=hok b _ z;obtain⟨e2,_⟩:=hok' b _ z2;rw[e]at e1;cases e1;exact e2
 cases hk:K.lookup a with
 |some o=>
  -- the script is one of the module's own objects
  have e:=KX a o hk;rw[ha]at e
  cases e;refine core (λ_=>none) (λ_=>.inl rfl) (.inr ⟨_,vs.toArray,_,hk,rfl,rfl,rfl,by rw[List.size_toArray,lenV];exact hl,by simpa using rv⟩) (λb u z=>by have z':(none:Option HO)=some u:=z;cases z') (λb z=>absurd rfl z) λz=>absurd rfl z
 |none=>
  refine core (λb=>if b=a then some (.frz { cls:=.type "list",data:=.seq vs.toArray } (.lst (ns.map V.int))) else none) (λb=>?_) (.inl (.inr ⟨{ cls:=.type "list",data:=.seq vs.toArray },if_pos rfl⟩)) (λb u z=>?_) (λb z=>?_) λ_=>hk
  ·by_cases hb:b=a
   ·exact .inr ⟨_,_,if_pos hb⟩
   ·exact .inl (if_neg hb)
  ·by_cases hb:b=a
   ·have z':=(if_pos hb).symm.trans z
    cases z';subst hb;exact⟨ha,by rw[List.length_map];exact hl,vs,_,rv,ha⟩
   ·have z':=(if_neg hb).symm.trans z
    cases z'
  ·by_cases hb:b=a
   ·exact hb
   ·exact absurd (if_neg hb) z
theorem walk_of{l:PySem.W.OpenLaw}{n k:Nat}{q:Program}{loose:List Str}{XP:(Str->Option Value)->Heap->Prop}{YP:World->Heap->Prop}{d:DefRec}{K:Params->PySem.W.Frag}{CX:World->CXT}{sp:World->Sp}{x:Str}
  (hn:l.most=some n) (hn2:n<=sizeLine) (hdf:d.params.defaults = []) (hr:Room k callerA)
  (hY:∀(w:World) (h:Heap),YP w h->(K w.params).In h)
  (F:∀(w:World) (mg:Str->Option Value) (fa:Addr) (h:Heap),(K w.params).In h->h.Ns mainGlobals mg->mg d.name=some (.ref fa) ->
   ∃fd:FuncData,(∀(s:Shared) (u:Value),BindsTo s fd ⟨[u],[]⟩ [(x,u)]) /\
    ∀base:Heap,(K w.params).In base->base.Ns mainGlobals mg->FnOk l.prog w (K w.params) mg base (CX w) k fa fd [x] (sp w))
  (hsp:∀(w:World) (H:Hp) (a:Addr) (ns:List Int),ns.length<=n->zqh H->SqL (K w.params) H a (ns.map V.int)->sp w [.ref a] H (λv _=>v=.bl true) λ_ _ _=>False)
  (hCX:∀(w:World) (H:Hp) (s:Shared) (e:Value) (s':Shared),CX w [] H s (λ_ _ _=>False) e s'->False) :
  PySem.W.WalkO q loose XP YP l.row.toRowW d [] (λf vs=>PySem.call f vs):=by
 refine Att.attach_call hn hdf λw s₀ s₁ mg mb fa o pm cd doc a vs ns G Y ho hd hcd hmg hobj hints hlen hg=>?_;have KX:=hY w _ Y;obtain⟨fd,hb,hF⟩:=F w mg fa _ KX G.T.g hmg;exact zk9 KX G.T.g G.T.b G.T.builtins G.T.nolimit hg hobj hints (Nat.le_trans hlen hn2) hr hF hb (λH hO hS=>hsp w H a ns hlen hO hS) λH e s'=>hCX w H s₁ e s'
def zab(s:Stmt)(j:Nat):Stmt:=match s with
 |.ClassDef _ _ _ body _ _ _ _ _ _ _=>body.getD j (.Pass ⟨0,0,0,0⟩)
 |_=>.Pass ⟨0,0,0,0⟩
def wc(s:Stmt):Arguments:=match s with
 |.FunctionDef _ a _ _ _ _ _ _ _ _=>a
 |_=>{ posonlyargs:=[],args:=[],vararg:=none,kwonlyargs:=[],kw_defaults:=[],kwarg:=none,defaults:=[] }
def xa(s:Stmt):List Stmt:=match s with
 |.FunctionDef _ _ b _ _ _ _ _ _ _=>b
 |_=>[]
def ze(s:Stmt):Scope:=match s with
 |.FunctionDef _ _ _ _ _ _ sc _ _ _=>sc
 |_=>{ kind:=.function,names:=[],isGenerator:=false,isCoroutine:=false }
abbrev CX0:CXT:=λ_ _ _ _ _ _=>False
abbrev E0:XK:=λ_ _ _=>False
theorem zsr{X:Cx}:zgv CX0 X E0:=λ_ _ _ _ _ _ _ h=>h.elim
structure Fun(K:PySem.W.Frag)(x qual:Str)(st:Stmt)(f:Addr)(fd:FuncData):Prop where
 ex:∃(oc:Value) (od:Option Addr) (kV doc pm:Value) (an:Option Addr) (cdv ct:Value) (osl:Array (Option Value)),
  fd=PySem.W.fnOf x qual (wc st) (xa st) (ze st) .none kV doc pm an cdv ct/\K.lookup f=some ⟨oc,od,.func fd,osl⟩/\PySem.W.codeIn K cdv qual=true
 kp:PySem.W.keepIn K (.ref f)=true
section
variable {P:Program}{w:World}{K:PySem.W.Frag}{mg:Str->Option Value}{base:Heap}
theorem Fun.ok{x qual:Str}{st:Stmt}{f:Addr}{fd:FuncData}{N ps:List Str}{k:Nat}{sp:Sp}(F:Fun K x qual st f fd)(S:yf N ps (ze st))(len:∀vs H Q E,sp vs H Q E->vs.length=ps.length)
  (hbody:∀(cdv:Value) (A:Around) (outer:List Env) (s:Shared) (H:Hp) (vs:List V) (Q:VK) (E:XK),Room k (A.deeper (envOfC qual (ze st) s.heap.objs.size f cdv))->sp vs H Q E ->
   ∃t,PSs (xn CX0 P w K mg base N qual (ze st) f cdv A outer s H E).nox (xa st) t/\t { nx:=λ_ H'=>Q .non H',rt:=Q } (wo N vs) H):FnOk P w K mg base CX0 (k+1) f fd ps sp:=by
 obtain⟨oc,od,kV,doc,pm,an,cdv,ct,osl,rfl,lk,hcd⟩:=F.ex;refine zo6 lk hcd S len λA outer s H vs Q E hr hsp=>?_;obtain⟨t,h,q⟩:=hbody cdv A outer s H vs Q E hr hsp;exact⟨t,h.nox,q⟩
theorem Fun.binds{x qual:Str}{st:Stmt}{f:Addr}{fd:FuncData}{ps:List Str}(F:Fun K x qual st f fd)
  (h:∀(kV doc pm:Value) (an:Option Addr) (cdv ct:Value) (us:List Value),us.length=ps.length->bindArgs (PySem.W.fnOf x qual (wc st) (xa st) (ze st) .none kV doc pm an cdv ct) ⟨us,[]⟩=pure (ps.zip us)):Binds K fd ps []:=by
 obtain⟨oc,od,kV,doc,pm,an,cdv,ct,osl,rfl,lk,hcd⟩:=F.ex;exact .all (h kV doc pm an cdv ct)
theorem zla{x qual:Str}{st:Stmt}{f:Addr}{oc:Value}{od an:Option Addr}{osl:Array (Option Value)}{kV doc pm cdv ct:Value}(l:K.lookup f=some ⟨oc,od,.func (PySem.W.fnOf x qual (wc st) (xa st) (ze st) .none kV doc pm an cdv ct),osl⟩)
  (c:PySem.W.codeIn K cdv qual=true) (k:PySem.W.keepIn K (.ref f)=true):Fun K x qual st f (PySem.W.fnOf x qual (wc st) (xa st) (ze st) .none kV doc pm an cdv ct):=⟨⟨oc,od,kV,doc,pm,an,cdv,ct,osl,rfl,l,c⟩,k⟩
end
section
variable {X:Cx}
theorem pv(i:Nat){x:Str}{pos:Pos}(hN:X.N[i]?=some x:=by rfl)(hv:Vis X.env.scope x:=by first|exact Or.inl rfl|exact Or.inr (Or.inl rfl)|exact Or.inr (Or.inr rfl))(hd:(x ==("__debug__" : Str))=false:=by decide)
  (hcd:(x ==("__classdict__" : Str))=false:=by decide):PE X (.Name x pos) (zr7 i):=x5 hN hv hd hcd
end
theorem ztz{A B:Prop}(h:B):if false=true then A else B:=by
 rw[if_neg Bool.false_ne_true];exact h
theorem zss{c A B:Prop}[Decidable c](h1:c->A)(h2:¬ c->B):if c then A else B:=by
 by_cases h:c
 ·rw[if_pos h];exact h1 h
 ·rw[if_neg h];exact h2 h
def Same(H H':Hp):Prop:=∀b o,H b=some o->H' b=some o
theorem Same.refl(H:Hp):Same H H:=λ_ _ h=>h
theorem Same.trans{H H1 H2:Hp}(a:Same H H1)(b:Same H1 H2):Same H H2:=λc o h=>b c o (a c o h)
theorem Same.free{H H':Hp}(e:Same H H'){l:Addr}(h:H' l=Option.none):H l=Option.none:=by
 cases q:H l with
 |none=>rfl
 |some o=>
  rw[e l o q]at h
  cases h
theorem Same.seq{K:PySem.W.Frag}{H H':Hp}{a:Addr}{xs:List V}(e:Same H H')(h:SqL K H a xs):SqL K H' a xs:=by
 rcases h with(h |⟨o,h⟩)|h
 ·exact .inl (.inl (e _ _ h))
 ·exact .inl (.inr ⟨o,e _ _ h⟩)
 ·exact .inr h
theorem zd9{prog:Program}{w:World}{A:Around}{R:Result->Shared->Prop}{s:Shared}{elt target iter:Expr}{ifs:List Expr}{scope:Scope}{pos:Pos}{it acc:Value}{env:Env}(I:Nat->Shared->Prop)
  (turn:∀n s,I n s->wpAny (model prog w) A (pyNext it) (λr s1=>match r with
   |none=>R (.ok .next) s1
   |some v=>wpAny (model prog w) A (letOwnedTupleGo target it v) (λ_ s1'=>wpAny (model prog w) A (assign target env v) (λ_ s2=>
     wpAny (model prog w) A (forIn ifs true λc r=>if r=true then do let ok <-isTrue c env (eval c env);pure (ForInStep.yield ok) else pure (ForInStep.yield r)) (λok s3=>
      if ok=true then wpAny (model prog w) A (eval elt env) (λx s4=>
       wpAny (model prog w) A (call (.builtin "list.append") [acc,x]) (λ_ s5=>∃m,m<n/\I m s5) (λ_ _=>False) s4) (λ_ _=>False) s3
      else ∃m,m<n/\I m s3) (λ_ _=>False) s2) (λ_ _=>False) s1') (λ_ _=>False) s1) (λ_ _=>False) s)
  (n:Nat) (h:I n s) :
  codeAny (model prog w) A (.compLoop (.ListComp elt [⟨target,iter,ifs,0⟩] scope pos) 0 it acc env) R s:=by
 refine codeAny_loop rfl I (λn s hI=>?_) n h;show wpAny _ A ((compTurn (.ListComp elt [⟨target,iter,ifs,0⟩] scope pos) 0 it acc env).onRaise (λx=>do noteFrame x env;theTreesLotGoes x)) _ _ s;refine wpAny_noted ?_;rw[compTurn_list];refine wpAny_bind (wpAny_standAt (wpAny_bind (wpAny_mono (turn n s hI) (λr s₁ h₁=>?_) λ_ _ h'=>h'.elim)))
 cases r with
 |none=>exact wpAny_pure h₁
 |some v=>
  refine wpAny_bind (wpAny_mono h₁ (λ_ s₁' h₁'=>?_) λ_ _ h'=>h'.elim);refine wpAny_bind (wpAny_mono h₁' (λ_ s₂ h₂=>wpAny_bind (wpAny_mono h₂ (λok s₃ h₃=>?_) λ_ _ h'=>h'.elim)) λ_ _ h'=>h'.elim)
  cases ok with
  |false=>exact wpAny_pure ⟨rfl,h₃⟩
  |true=>
   exact wpAny_bind (wpAny_bind (wpAny_mono h₃ (λx s₄ h₄=>wpAny_bind (wpAny_mono h₄ (λ_ s₅ h₅=>wpAny_pure (wpAny_pure ⟨rfl,h₅⟩)) λ_ _ h'=>h'.elim)) λ_ _ h'=>h'.elim))
inductive Capt(X:Cx)(scope:Scope)(cl:List (Str×Addr)):List Str->List Nat->Prop
 |nil:Capt X scope cl [] []
 |cons {x:Str}{j:Nat}{xs:List Str}{js:List Nat} (h1:X.N[j]?=some x) (h2:X.env.kindOf x=some .cell\/X.env.kindOf x=some .free) (h3:cl.lookup x=X.env.cells.lookup x)
  (h4:(relabel scope X.env).names.lookup x=some .cell\/(relabel scope X.env).names.lookup x=some .free) (t:Capt X scope cl xs js):Capt X scope cl (x::xs) (j::js)
theorem Capt.get{X:Cx}{scope:Scope}{cl:List (Str×Addr)}:∀{xs:List Str}{js:List Nat},Capt X scope cl xs js->xs.length=js.length/\∀(i:Nat) (x:Str) (j:Nat),xs[i]?=some x->js[i]?=some j->X.N[j]?=some x/\(X.env.kindOf x=some .cell\/X.env.kindOf x=some .free)/\cl.lookup x=X.env.cells.lookup x /\
  ((relabel scope X.env).names.lookup x=some .cell\/(relabel scope X.env).names.lookup x=some .free)
 |_,_,.nil=>⟨rfl,λi x j h=>by simp at h⟩
 |_,_,.cons h1 h2 h3 h4 t=>⟨by simp[t.get.1],λi x j hx hj=>by
  cases i with
  |zero=>simp at hx hj;subst hx hj;exact⟨h1,h2,h3,h4⟩
  |succ i=>exact t.get.2 i x j (by simpa using hx) (by simpa using hj)⟩
inductive SubC(X:Cx):List (Str×Addr)->Prop
 |nil:SubC X []
 |cons {x:Str}{c:Addr}{cl:List (Str×Addr)} (h:X.env.cells.lookup x=some c) (t:SubC X cl):SubC X ((x,c)::cl)
theorem SubC.of{X:Cx}:∀{cl:List (Str×Addr)},SubC X cl->∀x c,cl.lookup x=some c->X.env.cells.lookup x=some c
 |_,.nil,x,c,h=>by simp at h
 |_,.cons (x:=y) (c:=d) h0 t,x,c,h=>by
  rw[List.lookup_cons]at h
  cases e:x == y with
  |true=>
   rw[e]at h;have:x=y:=by simpa using e
   subst this;rw[h0];simpa using h
  |false=>rw[e]at h;exact t.of x c (by simpa using h)
def ye(X:Cx)(N':List Str)(scope:Scope)(cl:List (Str×Addr))(C:Addr)(fp:List Addr)(s2:Shared)(H2:Hp):Cx where
 prog:=X.prog
 w:=X.w
 K:=X.K
 mg:=X.mg
 base:=X.base
 A:=X.A
 N:=N'
 s₀:=s2
 H₀:=H2
 env:=compEnvC scope cl C X.env
 outer:=X.stack
 stack:=X.stack
 ex:=fp
 fn:=λ_=>false
 calm:=true
 pn:=[]
 xe:=λ_ _=>False
def yt(k:Nat)(js:List Nat)(σ:St):St:=List.replicate k none++js.map λj=>(σ[j]?).join
def PTs(X:Cx)(ifs:List Expr)(t:TT):Prop :=
 ∀(pins:List (Addr×Obj)) (s:Shared) (σ:St) (H:Hp) (Q:Bool->Hp->Prop),Inv X pins σ H s->t σ H Q ->
  wpAny (model X.prog X.w) X.A (forIn ifs true λc r=>if r=true then do let ok <-isTrue c X.env (eval c X.env);pure (ForInStep.yield ok) else pure (ForInStep.yield r)) (TP X pins σ Q) X.xe s
def zst:TT:=λ_ H Q=>Q true H
theorem zns{X:Cx}:PTs X [] zst:=λ_ _ _ H _ I h=>wpAny_tests_nil ⟨H,I,h⟩
theorem znt{X:Cx}{c:Expr}{t:TT}(hc:PT X c t):PTs X [c] t:=λpins s σ H Q I h=>wpAny_tests_one (hc pins s σ H Q I h)
def zea(J:It)(D:Addr)(g:TG)(tt:TT)(te:TE)(σ0:St)(H1:Hp)(Q:VK):Prop :=
 ∃W:Nat->Nat->St->Hp->Prop,(∃m,W 0 m σ0 (upd H1 D (.lst [])))/\∀i m σ H,W i m σ H ->
  (J.stop i H/\Q (.ref D) H)\/(J.go i H/\∀x H',J.yld i H x H'->g x σ H' λσ2 H2=>tt σ2 H2 λb H3=>
   if b=true then te σ2 H3 λy H4=>∃ys,H4 D=some (.lst ys)/\ys.length<sizeLine/\∃m',m' < m/\W (i+1) m' σ2 (upd H4 D (.lst (ys ++ [y])))
   else ∃m',m' < m/\W (i+1) m' σ2 H3)
def tLC(k:Nat)(js:List Nat)(wi:TI)(g:TG)(tt:TT)(te:TE):TE:=λσ H Q=>wi σ H λJ H1=>∀D,H1 D=none->zea J D g tt te (yt k js σ) H1 Q
section
variable {X:Cx}
theorem zo7{N':List Str}{scope:Scope}{cl:List (Str×Addr)}{fp:List Addr}{pins:List (Addr×Obj)}{σ:St}{H2:Hp}{s2:Shared}{C:Addr}(I:Inv X pins σ H2 s2)(hc:X.calm=true)(hkind:scope.kind=.function)(hC:s2.heap.objs.size<=C)
  (hsub:SubC X cl) (hhas:(relabel scope X.env).names.all (λp=>(p.2 != .cell && p.2 != .free) ||(cl.lookup p.1).isSome)=true)
  (hf:∀b∈fp,FpOk X pins H2 b) (ho:∀b∈fp,∃o,s2.heap.get? b=some o/\∀v,o.data ≠ .cell v):(ye X N' scope cl C fp s2 H2).Ok where
 mod:=I.ok.mod
 kind:=hkind
 glob:=I.ok.glob
 blt:=I.ok.blt
 above:=hC
 inj:=λx y c h1 h2=>I.ok.inj x y c (hsub.of x c h1) (hsub.of y c h2)
 has:=λx hx=>by
  have hx:(relabel scope X.env).names.lookup x=some .cell\/(relabel scope X.env).names.lookup x=some .free:=hx;have key:∀k,(relabel scope X.env).names.lookup x=some k->(k=.cell\/k=.free)->∃c,cl.lookup x=some c:=λk hk hkk=>by
   have hm:=PySem.mem_of_lookup hk;have:=List.all_eq_true.mp hhas _ hm;rcases hkk with rfl|rfl <;> exact Option.isSome_iff_exists.mp (by simpa using this)
  rcases hx with hx|hx
  ·exact key _ hx (.inl rfl)
  ·exact key _ hx (.inr rfl)
 cab:=λx c h=>by cases h
 hd:=λ_=>I.ok.hd hc
 frames:=I.ok.frames
 stk:=.inl rfl
 exf:=λb hb=>by
  obtain⟨o,e,_⟩:=ho b hb;obtain⟨f0,f1,f2,f3,f4,f5⟩:=hf b hb;exact⟨Nat.ne_of_lt (Nat.lt_of_lt_of_le (Heap.lt_size e) hC),λx c h=>f4 x c (hsub.of x c h)⟩
 bs:=I.bs
 bsz:=Nat.le_trans I.ok.bsz I.sz
 noex:=λb o e hb=>by
  obtain⟨f0,f1,f2,f3,f4,f5⟩:=hf b hb;rcases f3 with z|z
  ·exact I.ok.noex b o e z
  ·exact absurd (Nat.lt_of_lt_of_le (Heap.lt_size e) (Nat.le_trans I.ok.bsz z)) (Nat.lt_irrefl _)
 exfs:=λb hb z=>by
  obtain⟨f0,f1,f2,f3,f4,f5⟩:=hf b hb;exact(List.mem_cons.mp (I.stkSub b z)).elim f1 f2
 funs:=I.stack
 frf:=I.stkFree
theorem zfn{N' capt:List Str}{k:Nat}{js:List Nat}{scope:Scope}{cl:List (Str×Addr)}{fp:List Addr}{pins:List (Addr×Obj)}{σ:St}{H2:Hp}{s2:Shared}{D C:Addr}{h4:Heap}{t4:Nat}{m:Str->Option Value}(I:Inv X pins σ H2 s2)(ok:(ye X N' scope cl C fp s2 H2).Ok)
  (hD:s2.heap.objs.size<=D) (hC:s2.heap.objs.size<=C) (hDC:D≠C) (keep:∀b o,s2.heap.get? b=some o->h4.get? b=some o) (hns:h4.Ns C m)
  (hl:h4.get? D=some { cls:=.type "list",data:=.seq #[] 0 })
  (hsub:SubC X cl) (hcap:Capt X scope cl capt js) (hN:N'=N'.take k++capt) (hk:k<=N'.length) :
  Inv (ye X N' scope cl C fp s2 H2) [] (yt k js σ) (upd H2 D (.lst [])) { s2 with heap:=h4,toks:=t4 }:=by
 have below:∀b o,s2.heap.get? b=some o->b≠D/\b≠C:=λb o e=>⟨Nat.ne_of_lt (Nat.lt_of_lt_of_le (Heap.lt_size e) hD),Nat.ne_of_lt (Nat.lt_of_lt_of_le (Heap.lt_size e) hC)⟩
 have hlen:N'.length=k+capt.length:=by
  have:=congrArg List.length hN;rw[List.length_append,List.length_take]at this;omega
 refine⟨ok,rfl,I.bare,Un.laid keep hD (I.hok.fresh hD),⟨m,hns,λi x v h1 h2 h3=>?_⟩,λx c h=>?_,?_,λx c h=>?_,λp hp=>absurd (show p∈([]:List (Addr×Obj)) from hp) (by simp),?_,?_⟩
 ·have h1:N'[i]?=some x:=h1;unfold yt at h2
  by_cases hi:i<k
  ·rw[List.getElem?_append_left (by simpa using hi),List.getElem?_replicate]at h2;rw[if_pos hi]at h2
   cases h2
  ·rw[List.getElem?_append_right (by simpa using hi),List.length_replicate,List.getElem?_map]at h2
   have hx:capt[i-k]?=some x:=by
    rw[hN,List.getElem?_append_right (by rw[List.length_take];omega),List.length_take]at h1;rw[show min k N'.length=k by omega]at h1;exact h1
   cases ej:js[i-k]? with
   |none=>rw[ej]at h2;cases h2
   |some j=>
    rw[ej]at h2;have h2':(σ[j]?).join=some v:=Option.some.inj h2;obtain⟨q1,q2,q3,q4⟩:=hcap.get.2 _ _ _ hx ej;have hv:σ[j]?=some (some v):=by
     cases e:σ[j]? with
     |none=>rw[e]at h2';cases h2'
     |some o=>rw[e]at h2';cases o with
      |none=>cases h2'
      |some v'=>simpa using h2'
    obtain⟨m0,hn0,hl0⟩:=I.loc;obtain⟨u,r,l⟩:=hl0 j x v q1 hv (by rcases q2 with z|z;exact .inr (.inl z);exact .inr (.inr z));refine⟨u,r,?_⟩;rcases l with⟨z,_⟩ |⟨_,c,e,o,z1,z2⟩
    ·rcases q2 with q|q <;> · rw[q]at z;cases z
    ·exact .inr ⟨q4,c,q3.trans e,o,keep c o z1,z2⟩
 ·obtain⟨v,o,z1,z2⟩:=I.cell x c (hsub.of x c h);exact⟨v,o,keep c o z1,z2⟩
 ·show upd H2 D (.lst []) C=none;rw[zh (Ne.symm hDC)];exact I.hok.fresh hC
 ·obtain⟨v,o,z1,z2⟩:=I.cell x c (hsub.of x c h);show upd H2 D (.lst []) c=none;rw[zh (below c o z1).1];exact I.freeC x c (hsub.of x c h)
 ·exact I.hok.laid keep hD ⟨Nat.zero_le _,[],0,.nil,hl⟩
 ·show(yt k js σ).length=N'.length;unfold yt;rw[List.length_append,List.length_replicate,List.length_map,hlen,hcap.get.1]
structure zcz(X:Cx)(scope:Scope)(cl:List (Str×Addr))(N' capt:List Str)(k:Nat)(js:List Nat):Prop where
 clos:closureFor scope X.env=pure cl
 cell:∀y∈scope.names,y.2 ≠ .cell
 kind:scope.kind=.function
 names:∀y∈scope.names,y.2=.local->scope.names.lookup y.1=some .local
 sub:SubC X cl
 has:(relabel scope X.env).names.all (λp=>(p.2 != .cell && p.2 != .free) ||(cl.lookup p.1).isSome)=true
 cap:Capt X scope cl capt js
 hN:N'=N'.take k++capt
 hk:k<=N'.length
def LcEnd(X:Cx)(pins:List (Addr×Obj))(σ:St)(Q:VK)(acc:Value)(C:Addr)(r:Result)(s':Shared):Prop :=
 ∃(f:Flow) (D:Addr) (H':Hp) (m:Str->Option Value),r=.ok f/\acc=.ref D/\Inv X pins σ H' s'/\Q (.ref D) H'/\s'.heap.Ns C m/\H' C=none/\C≠X.env.locals/\X.s₀.heap.objs.size<=C/\(∀x c,X.env.cells.lookup x=some c->c≠C)/\∀p∈X.pn++pins,p.1≠C
theorem LcEnd.let_go{pins:List (Addr×Obj)}{σ':St}{H':Hp}{C:Addr}{s'':Shared}{h':Heap}(I:Inv X pins σ' H' s'')(hn:H' C=none)(h1:C≠X.env.locals)(h2:X.s₀.heap.objs.size<=C)(h3:∀x c,X.env.cells.lookup x=some c->c≠C)(h4:∀p∈X.pn++pins,p.1≠C)
  (hs:Heap.SameBut C s''.heap h'):Inv X pins σ' H' { s'' with heap:=h' } :=
 I.turned (t':=s''.toks) (λb o hb e=>(hs.2 b hb).trans e) hn h1 (.inr h2) h3 h4
theorem zfo{elt tg iter:Expr}{ifs:List Expr}{scope:Scope}{pos:Pos}{cl:List (Str×Addr)}{N' capt:List Str}{k:Nat}{js:List Nat}{g:TG}{tt:TT}{te:TE}{J:It}{fp:List Addr}{tn:Nat->Heap->Prop}{it:Addr}
  {pins:List (Addr×Obj)}{σ:St}{H2:Hp}{s2:Shared}{Q:VK}{E:Value->Shared->Prop} (hc:X.calm=true) (L:zcz X scope cl N' capt k js)
  (hg:∀C fp s2 H2,PG (ye X N' scope cl C fp s2 H2) tg g) (ht:∀C fp s2 H2,PTs (ye X N' scope cl C fp s2 H2) ifs tt) (he:∀C fp s2 H2,PE (ye X N' scope cl C fp s2 H2) elt te)
  (I2:Inv X pins σ H2 s2) (T:zfh X.prog X.w X.K tg J fp it tn) (st2:tn 0 s2.heap) (f2:∀b∈fp,FpOk X pins H2 b) (q:∀D,H2 D=none->zea J D g tt te (yt k js σ) H2 Q) :
  wpAny (model X.prog X.w) X.A (newList []) (λacc s3=>wpAny (model X.prog X.w) X.A (newFunctionEnv scope X.env.globals cl [] X.env.qual none .none (some X.env)) (λcenv s4=>
   codeAny (model X.prog X.w) X.A (.compStart (.ListComp elt [⟨tg,iter,ifs,0⟩] scope pos) 0 (.ref it) acc { cenv with scope:=relabel scope X.env }) (LcEnd X pins σ Q acc cenv.locals) s4) E s3) E s2:=by
 refine wpAny_newObj_type (wpAny_newFunctionEnv L.cell (by intro y hy;simp at hy) (λh₁ hns₁ hsb₁=>?_) L.kind);dsimp only at hns₁ hsb₁ ⊢;generalize hH2:s2.heap.push { cls:=.type "list",dict:=none,data:=.seq ([]:List Value).toArray }=G at hns₁ hsb₁ ⊢;have hC:G.objs.size=s2.heap.objs.size+1:=by rw[<-hH2,Heap.size_push]
 have hDC:s2.heap.objs.size≠G.objs.size:=by rw[hC];exact Nat.ne_of_lt (Nat.lt_succ_self _)
 have hCle:s2.heap.objs.size<=G.objs.size:=by rw[hC];exact Nat.le_succ _
 have below:∀b,b<s2.heap.objs.size->b≠G.objs.size:=λb hb=>by rw[hC];exact Nat.ne_of_lt (Nat.lt_succ_of_lt hb)
 have keep:∀b o,s2.heap.get? b=some o->h₁.get? b=some o:=λb o e=>hsb₁.extBut b o (below b (Heap.lt_size e)) (Heap.get?_push_of_some _ (hH2 ▸ Heap.get?_push_of_some _ e));have hl:h₁.get? s2.heap.objs.size=some { cls:=.type "list",data:=.seq #[] 0 }:=hsb₁.extBut _ _ hDC (Heap.get?_push_of_some _ (hH2 ▸ Heap.get?_push_size _ rfl));have ho2:=T.obj _ _ st2;have ok:(ye X N' scope cl G.objs.size fp s2 H2).Ok:=zo7 I2 hc L.kind hCle L.sub L.has f2 ho2;generalize hD:s2.heap.objs.size=D at hl hDC ⊢;generalize hCC:G.objs.size=C at hns₁ hsb₁ hDC hC hCle below ok ⊢;have hDle:s2.heap.objs.size<=D:=by rw[hD];exact Nat.le_refl _
 have I4:Inv (ye X N' scope cl C fp s2 H2) [] (yt k js σ) (upd H2 D (.lst [])) { s2 with heap:=h₁,toks:=s2.toks+([]:List (Str×Value)).length } :=
  zfn I2 ok hDle hCle hDC keep hns₁ hl L.sub L.cap L.hN L.hk
 obtain⟨W,⟨m0,w0⟩,turn⟩:=q D (I2.hok.fresh hDle);have tn0:tn 0 h₁:=T.keep _ _ _ st2 λb _ o e=>keep b o e;have fr0:∀b∈fp,upd H2 D (.lst []) b=none:=λb hb=>by
  obtain⟨o,e,_⟩:=ho2 b hb;rw[zh (Nat.ne_of_lt (Nat.lt_of_lt_of_le (Heap.lt_size e) hDle))];exact(f2 b hb).1
 have stat:∀{H':Hp},(∀b∈fp,H' b=none)->∀b∈fp,FpOk (ye X N' scope cl C fp s2 H2) [] H' b:=λhn b hb=>by
  refine⟨hn b hb,(ok.exf b hb).1,ok.exfs b hb,.inl hb,(ok.exf b hb).2,λp hp=>absurd (show p∈([]:List (Addr×Obj)) from hp) (by simp)⟩
 have loop:∀s₃:Shared,s₃ = { s2 with heap:=h₁,toks:=s2.toks+([]:List (Str×Value)).length } ->
   codeAny (model X.prog X.w) X.A (.compLoop (.ListComp elt [⟨tg,iter,ifs,0⟩] scope pos) 0 (.ref it) (.ref D) (compEnvC scope cl C X.env)) (LcEnd X pins σ Q (.ref D) C) s₃:=by
  rintro s₃ rfl;refine zd9 (λn s'=>∃i σ' H',Inv (ye X N' scope cl C fp s2 H2) [] σ' H' s'/\tn i s'.heap/\(∀b∈fp,H' b=none)/\W i n σ' H') ?_ m0 ⟨0,_,_,I4,tn0,fr0,w0⟩;rintro n s3 ⟨i,σ3,H3,I3,st3,fr3,w3⟩;rcases turn i n σ3 H3 w3 with⟨stop,qn⟩ |⟨go,step⟩
  ·refine thn (T.done (ye X N' scope cl C fp s2 H2) rfl rfl rfl rfl i [] s3 σ3 H3 (λ_ _=>False) I3 (stat fr3) st3 stop) λr s4 ⟨hr,J4⟩=>?_;subst hr;obtain⟨m,hn,_⟩:=id J4.loc;have hs:X.s₀.heap.objs.size<=C:=Nat.le_trans I2.sz hCle;refine⟨.next,D,H3,m,rfl,rfl,I2.call' (ch:=fp) J4.os J4.base J4.hok J4.bare (λb hb=>?_),qn,hn,J4.free,λz=>?_,hs,λx c h z=>?_,λp hp z=>?_⟩
   ·obtain⟨f0,f1,f2',f3,f4,f5⟩:=f2 b hb;exact⟨f3,f1,f4,f5⟩
   ·have:=I2.lt;rw[<-z]at this;exact absurd (Nat.lt_of_lt_of_le this hCle) (Nat.lt_irrefl _)
   ·obtain⟨v,o,z1,_⟩:=I2.cell x c h;have:=Heap.lt_size z1;rw[z]at this;exact absurd (Nat.lt_of_lt_of_le this hCle) (Nat.lt_irrefl _)
   ·have:=Heap.lt_size (I2.pin p hp).1;rw[z]at this;exact absurd (Nat.lt_of_lt_of_le this hCle) (Nat.lt_irrefl _)
  ·refine thn (T.item (ye X N' scope cl C fp s2 H2) rfl rfl rfl rfl i [] s3 σ3 H3 (λ_ _=>False) I3 (stat fr3) st3 go) λr s4 ⟨u,hr,h4⟩=>?_;subst hr;refine thn h4 λ_ s5 ⟨x,H5,I5,r5,y5,st5,fr5⟩=>?_;have I5':=I5.pinned (stat fr5) (T.obj _ _ st5);refine thn (hg C fp s2 H2 _ s5 σ3 H5 x u _ I5' r5 (step x H5 y5)) λ_ s6 ⟨σ6,H6,I6,q6⟩=>?_;refine thn (ht C fp s2 H2 _ s6 σ6 H6 _ I6 q6) λok s7 ⟨H7,I7,q7⟩=>?_
   have again:∀{H8:Hp}{s8:Shared},Inv (ye X N' scope cl C fp s2 H2) ([]++jq fp s5.heap) σ6 H8 s8->(∃m',m' < n/\W (i+1) m' σ6 H8)->∃m,m<n/\∃i σ' H',Inv (ye X N' scope cl C fp s2 H2) [] σ' H' s8/\tn i s8.heap/\(∀b∈fp,H' b=none)/\W i m σ' H':=λ{H8 s8} I8 n8=>by
    obtain⟨m',hm,w8⟩:=n8;refine⟨m',hm,i+1,σ6,H8,I8.unpinned,T.keep _ _ _ st5 λb hb o e=>(I8.pin (b,o) (List.mem_append_right _ (List.mem_append_right _ (xj hb e)))).1,λb hb=>?_,w8⟩;obtain⟨o,e,d⟩:=T.obj _ _ st5 b hb;exact(I8.pin (b,o) (List.mem_append_right _ (List.mem_append_right _ (xj hb e)))).2.1
   cases ok with
   |false=>
    rw[if_neg Bool.false_ne_true]at q7;exact again I7 q7
   |true=>
    rw[if_pos rfl]at q7;refine thn (he C fp s2 H2 _ s7 σ6 H7 _ I7 q7) λy s8 ⟨v8,H8,I8,r8,q8⟩=>?_;obtain⟨ys,e8,z8,w8⟩:=q8;refine thn (za1 (X:=ye X N' scope cl C fp s2 H2) _ s8 σ6 H8 (.ref D) [v8] (.ref D) [y] (λv H=>∃m',m' < n/\W (i+1) m' σ6 H) I8 rfl (.cons r8 .nil) ⟨D,ys,v8,rfl,rfl,e8,z8,w8⟩) λ_ s9 ⟨v9,H9,I9,_,w9⟩=>?_;exact again I9 w9
 exact codeAny_compStart_list (loop _ rfl) (T.self _ 0 _ _ _ tn0 (loop _ rfl))
theorem zsu{elt tg iter:Expr}{ifs:List Expr}{scope:Scope}{pos:Pos}{cl:List (Str×Addr)}{N' capt:List Str}{k:Nat}{js:List Nat}{wi:TI}{g:TG}{tt:TT}{te:TE}(hc:X.calm=true)(L:zcz X scope cl N' capt k js)
  (hi:PI X tg iter wi) (hg:∀C fp s2 H2,PG (ye X N' scope cl C fp s2 H2) tg g) (ht:∀C fp s2 H2,PTs (ye X N' scope cl C fp s2 H2) ifs tt) (he:∀C fp s2 H2,PE (ye X N' scope cl C fp s2 H2) elt te)
  (hs:∀x,foldedSetIterable iter X.env x=pure x:=by intro _;rfl):PE X (.ListComp elt [⟨tg,iter,ifs,0⟩] scope pos) (tLC k js wi g tt te):=by
 intro pins s σ H Q I h;rw[eval_ListComp];refine wpAny_comprehension_free (use:=none) rfl hs L.clos L.kind L.names (thn (hi pins s σ H _ I h) λv s1 h1=>thn h1 λitv s2 h2=>?_);obtain⟨it,fp,tn,J,H2,e,I2,T,st2,f2,q⟩:=h2;subst e;refine thn (zfo (E:=X.xe) hc L hg ht he I2 T st2 f2 q) λacc s3 h3=>thn h3 λcenv s4 h4=>codeAny_mono h4 λr s' hr=>?_;obtain⟨f,D,H',m,rfl,rfl,J',qq,hn,b1,b2,b3,b4,b5⟩:=hr;exact⟨m,hn,λh' hsb=>⟨.ref D,H',LcEnd.let_go J' b1 b2 b3 b4 b5 hsb,rfl,qq⟩⟩
theorem zlb{i:Nat}{x:Str}{elt tg iter:Expr}{ifs:List Expr}{scope:Scope}{pos pos' spos:Pos}{cl:List (Str×Addr)}{N' capt:List Str}{k:Nat}{js:List Nat}{wi:TI}{g:TG}{tt:TT}{te:TE}(hN:X.N.Nodup)(hi':X.N[i]?=some x)(hx:Loc X.env.scope x)(hc:X.calm=true)(L:zcz X scope cl N' capt k js)
  (hi:PI X tg iter wi) (hg:∀C fp s2 H2,PG (ye X N' scope cl C fp s2 H2) tg g) (ht:∀C fp s2 H2,PTs (ye X N' scope cl C fp s2 H2) ifs tt) (he:∀C fp s2 H2,PE (ye X N' scope cl C fp s2 H2) elt te)
  (hsw:swapsWith (.ListComp elt [⟨tg,iter,ifs,0⟩] scope pos) (some (.Name x pos')) spos.line X.env=pure true:=by rfl)
  (hs:∀x,foldedSetIterable iter X.env x=pure x:=by intro _;rfl) (hf:X.fn x=true\/X.env.scope.names.lookup x=some .local:=by first|exact .inl rfl|exact .inr rfl|assumption):PS X (.Assign [.Name x pos'] (.ListComp elt [⟨tg,iter,ifs,0⟩] scope pos) spos) (zni (tLC k js wi g tt te) (zkv i)):=by
 intro pins s σ H D I h;have h:tLC k js wi g tt te σ H (λv H1=>D.nx (σ.set i (some v)) H1):=h;rw[exec_Assign_Name_used _ _ _ _ hsw];refine wpAny_bind (wpAny_standAt (wpAny_bind ?_));show wpAny _ X.A (do let _ <-comprehension (.ListComp elt [⟨tg,iter,ifs,0⟩] scope pos) scope X.env _ (newList []) false (eval iter X.env) (some (assign (.Name x pos') X.env))) _ _ s;refine wpAny_bind (wpAny_mono (wpAny_comprehension_free (use:=some (assign (.Name x pos') X.env)) (Q:=λ_ s'=>SP X pins D .next s') rfl hs L.clos L.kind L.names
  (thn (hi pins s σ H _ I h) λv s1 h1=>thn h1 λitv s2 h2=>?_)) (λ_ s' hq=>wpAny_pure (wpAny_pure hq)) λ_ _ e=>e)
 obtain⟨it,fp,tn,J,H2,e,I2,T,st2,f2,q⟩:=h2;subst e;refine thn (zfo (E:=X.xe) hc L hg ht he I2 T st2 f2 q) λacc s3 h3=>thn h3 λcenv s4 h4=>codeAny_mono h4 λr s' hr=>?_;obtain⟨f,D',H',m,rfl,rfl,J',qq,hn,b1,b2,b3,b4,b5⟩:=hr;show wpAny _ X.A (assign (.Name x pos') X.env (.ref D')) _ _ _;refine wpAny_assign_Name (zaz (v:=.ref D') J' hN hi' hx rfl (λs'' J'' hsb=>?_) hf);obtain⟨a,hsb,ha⟩:=hsb;have hne:cenv.locals≠a:=by
  rcases ha with z|z
  ·rw[z];exact b2
  ·exact λz'=>b4 x a z z'.symm
 exact⟨m,hn.sameBut hsb hne,λh' hs'=>⟨_,H',LcEnd.let_go J'' b1 b2 b3 b4 b5 hs',qq⟩⟩
end
section
variable {X:Cx}{pins:List (Addr×Obj)}{σ:St}{H:Hp}{s:Shared}
theorem Inv.turnedNew{ch:List Addr}{p:Addr}{o:HO}{h':Heap}{t':Nat}(I:Inv X pins σ H s)(hch:∀b∈ch,FpOk X pins H b)(hp:s.heap.objs.size<=p)
  (k:∀b u,b∉ch->s.heap.get? b=some u->h'.get? b=some u) (new:ObjOk X.prog X.w (upd H p o) h' p o):Inv X pins σ (upd H p o) { s with heap:=h',toks:=t' }:=by
 have hn:=I.hok.fresh hp;have nch:∀b u,H b=some u->b∉ch:=λb u e z=>by rw[(hch b z).1]at e;cases e
 refine I.step (g':=s.gens) (d':=s.drawn) (ch:=ch) (λb hb=>?_) (λb u _ _ hc e _=>k b u hc e) (λb u _ _ hc e _=>⟨u.slots,k b u hc e⟩) (λb u hc e n=>?_) (λb u hc e=>⟨u,k b u hc e⟩)
  (λb xs e=>by rw[zh (yd e hn)];exact e) (λb u xs e=>by rw[zh (yd e hn)];exact e) (λb ps e=>⟨#[],by rw[zh (yd e hn),e];simp⟩) (λm hm=>?_) (λb u e=>?_) I.bare
 ·obtain⟨f0,f1,f2,f3,f4,f5⟩:=hch b hb;exact⟨f3,f1,f4,f5⟩
 ·rw[zh (Nat.ne_of_lt (Nat.lt_of_lt_of_le (Heap.lt_size e) hp))];exact n
 ·obtain⟨o',es,ep,ho,r⟩:=hm;exact⟨o',es,ep,k _ o' (λz=>(hch _ z).2.1 rfl) ho,r⟩
 ·by_cases hb:b=p
  ·subst hb;rw[zm]at e
   cases e;exact new
  ·rw[zh hb]at e;refine(I.hok b u e).stay (λc v hc q=>k c v ?_ q) (λc q=>by rw[zh (yd q hn)];exact q) (λc xs q=>by rw[zh (yd q hn)];exact q) (λc _ _ q=>by rw[zh (yd q hn)];exact q);rcases hc with z|z
   ·rw[z];exact nch b u e
   ·exact nch c _ z
theorem Inv.turnedL{ch:List Addr}{h':Heap}{t':Nat}(I:Inv X pins σ H s)(hch:∀b∈ch,FpOk X pins H b)
  (k:∀b u,b∉ch->s.heap.get? b=some u->h'.get? b=some u):Inv X pins σ H { s with heap:=h',toks:=t' }:=by
 have nch:∀b u,H b=some u->b∉ch:=λb u e z=>by rw[(hch b z).1]at e;cases e
 refine I.step (g':=s.gens) (d':=s.drawn) (ch:=ch) (λb hb=>?_) (λb u _ _ hc e _=>k b u hc e) (λb u _ _ hc e _=>⟨u.slots,k b u hc e⟩) (λb u hc e n=>n) (λb u hc e=>⟨u,k b u hc e⟩)
  (λb xs e=>e) (λb u xs e=>e) (λb ps e=>⟨#[],by rw[e];simp⟩) (λm hm=>?_) (λb u e=>?_) I.bare
 ·obtain⟨f0,f1,f2,f3,f4,f5⟩:=hch b hb;exact⟨f3,f1,f4,f5⟩
 ·obtain⟨o',es,ep,ho,r⟩:=hm;exact⟨o',es,ep,k _ o' (λz=>(hch _ z).2.1 rfl) ho,r⟩
 ·refine(I.hok b u e).stay (λc v hc q=>k c v ?_ q) (λc q=>q) λc xs q=>q;rcases hc with z|z
  ·rw[z];exact nch b u e
  ·exact nch c _ z
end
section
variable {X:Cx}
def zsv(i j:Int):Prop:=0<j/\j<10000000000000000000000000000000000000000000000000000000000000
theorem zfp:OpR X (binaryOp .FloorDiv) (rI zsv λi j=>.int (i / j)):=opI λi j _ _ _ _ _ hc q=>by
 have h0:j≠0:=by have:=hc.1;omega
 have e:i.fdiv j=i / j:=Int.fdiv_eq_ediv_of_nonneg i (by have:=hc.1;omega);refine floordiv_int h0 (by rw[e];exact q) (.inl (PyProof.noPylong_of_log2 ?_));have h1:j.natAbs<2 ^ 400:=Nat.lt_of_lt_of_le (show j.natAbs<10000000000000000000000000000000000000000000000000000000000000 by have h1:=hc.1;have h2:=hc.2;omega) (by decide +kernel);have h2:j.natAbs≠0:=by omega
 exact Nat.lt_of_lt_of_le ((Nat.log2_lt h2).mpr h1) (by decide)
end
def za2(P:Program)(w:World)(K:PySem.W.Frag)(mg:Str->Option Value)(base:Heap)(k:Nat)(x:Str)(ps:List Str)(sp:Sp):Prop :=
 ∃f fd,FnOk P w K mg base CX0 k f fd ps sp/\Binds K fd ps []/\PySem.W.keepIn K (.ref f)=true/\mg x=some (.ref f)
theorem zb4{X:Cx}{k k':Nat}{x:Str}{ps:List Str}{sp:Sp}{e:Expr}{es:List Expr}{t:TA}{p pos:Pos}(C:za2 X.prog X.w X.K X.mg X.base k x ps sp)(hr:Room k' X.A)(hg:Gl X x)(ha:PA X (e::es) t)(hk:k<=k':=by decide)
  (hdb:(x ==("__debug__" : Str))=false:=by decide) (he:starEach (e::es) X.env=(false,eval e X.env)::starEach es X.env:=by rfl) (hpl:(backTo pos (starEach es X.env)).any (·.1)=false:=by rfl) :
  PE X (.Call (.Name x p) (e::es) [] pos) (zk5 sp [] E0 t):=by
 intro pins s σ H Q I h;obtain⟨f,fd,F,b,kp,m⟩:=C;exact znm F (hr.mono hk) hg m kp b .nil zsr ha hdb he hpl pins s σ H Q I h
def But(p:Addr)(H H':Hp):Prop:=∀b o,b≠p->H b=some o->H' b=some o
theorem But.refl(p:Addr)(H:Hp):But p H H:=λ_ _ _ h=>h
theorem But.trans{p:Addr}{H H1 H2:Hp}(a:But p H H1)(b:But p H1 H2):But p H H2:=λc o n h=>b c o n (a c o n h)
theorem But.of_same{p:Addr}{H H':Hp}(h:Same H H'):But p H H':=λb o _ q=>h b o q
theorem But.write{p:Addr}{H:Hp}{o:HO}:But p H (upd H p o):=λb u n q=>by rw[zh n];exact q
theorem Same.but{p:Addr}{H H1 H2:Hp}(a:Same H H1)(hp:H p=none)(b:But p H1 H2):Same H H2:=λc o h=>b c o (yd h hp) (a c o h)
theorem zy{H:Hp}{p:Addr}(h:H p=none)(o:HO):Same H (upd H p o):=λb u q=>by rw[zh (yd q h)];exact q
def Pen(H:Hp)(p:Addr):Prop:=∃a b c:Int,H p=some (.lst [.int a,.int b,.int c])
theorem zsw{n:Nat}(h:n<=10000):n<sizeLine:=Nat.lt_of_le_of_lt h (by decide)
theorem zqi{α:Type}{xs:List α}{k:Int}(h0:0<=k)(h1:k<xs.length):∃v,atI xs k=some v/\xs[k.toNat]?=some v:=by
 have hk:k.toNat<xs.length:=by omega
 have ek:k=((k.toNat:Nat):Int):=by omega
 have q:atI xs ((k.toNat:Nat):Int)=some xs[k.toNat]:=h7 (List.getElem?_eq_getElem hk);rw[<-ek]at q;exact⟨_,q,List.getElem?_eq_getElem hk⟩
def NextLC(n i:Nat)(D:Addr)(Wv:Nat->St->Hp->Prop)(σ2:St)(y:V)(H4:Hp):Prop :=
 ∃ys,H4 D=some (.lst ys)/\ys.length<sizeLine/\∃m',m' < n-i/\(m'=n-(i+1)/\i+1<=n/\Wv (i+1) σ2 (upd H4 D (.lst (ys ++ [y]))))
def SkipLC(n i:Nat)(Wv:Nat->St->Hp->Prop)(σ2:St)(H3:Hp):Prop:=∃m',m' < n-i/\(m'=n-(i+1)/\i+1<=n/\Wv (i+1) σ2 H3)
theorem NextLC.mk{n i:Nat}{D:Addr}{Wv:Nat->St->Hp->Prop}{σ2:St}{y:V}{H4:Hp}(hi:i<n){ys:List V}(e:H4 D=some (.lst ys))(z:ys.length<=10000)(w:Wv (i+1) σ2 (upd H4 D (.lst (ys ++ [y])))):NextLC n i D Wv σ2 y H4 :=
 ⟨ys,e,zsw z,n-(i+1),by omega,rfl,hi,w⟩
theorem SkipLC.mk{n i:Nat}{Wv:Nat->St->Hp->Prop}{σ2:St}{H3:Hp}(hi:i<n)(w:Wv (i+1) σ2 H3):SkipLC n i Wv σ2 H3:=⟨n-(i+1),by omega,rfl,hi,w⟩
section
variable {prog:Program}{w:World}{A:Around}{E:Value->Shared->Prop}{s:Shared}
theorem zgz{it t:Addr}{i:Nat}{xs:Array Value}{x:Value}{Q:Value->Shared->Prop}(hi:s.heap.IsTupleIter it t i)(ht:s.heap.IsTuple t xs)(hx:xs[i]?=some x)
  (q:∀h',h'.IsTupleIter it t (i+1)->Heap.SameBut it s.heap h'->Q x { s with heap:=h' }):wpAny (model prog w) A (Builtin.SmallTypes.nextOf (.ref it)) Q E s:=by
 obtain⟨oi,e1,c1,d1⟩:=id hi;obtain⟨ot,e2,c2,n2,d2⟩:=id ht;unfold Builtin.SmallTypes.nextOf;refine wpAny_bind (wpAny_callSpecial?_slot (name:=Str.ofString "__next__") hi.typeIs F.slot_tuple_iterator_next (wpAny_call_entry F.slot_tuple_iterator_next hi.typeIs F.entry_tuple_iterator_next (show wpAny _ _ (field (.ref it) 0 >>= _) _ _ s from wpAny_bind (wpAny_field e1 d1 (x:=.ref t) rfl ?_)) (F.args_tuple_iterator_next_1 _)));show wpAny _ _ (if (Value.ref t == Value.none)=true then _ else _) _ _ s;rw[if_neg (λz:(Value.ref t == Value.none)=true=>Bool.false_ne_true z)];refine(show wpAny _ _ (field (.ref it) 1 >>= _) _ _ s from wpAny_bind (wpAny_field e1 d1 (x:=.int i 0) rfl (show wpAny _ _ (seqItems? (.ref t) >>= _) _ _ s from wpAny_bind (wpAny_seqItems e2 d2 ?_))));simp only[hx,Int.toNat_natCast];refine wpAny_bind (wpAny_setField e1 d1 (by simp) (wpAny_pure ⟨x,rfl,wpAny_pure (q _ ⟨_,Heap.get?_update_self _ e1 (Obj.isFreed_of_fields (Obj.data_mapFields d1 _)),(Obj.cls_mapFields ..).trans c1,?_⟩ (Heap.SameBut.update ..))⟩));rw[Obj.data_mapFields d1];simp[rawInt]
theorem zjq{it t:Addr}{i:Nat}{xs:Array Value}{Q:Value->Shared->Prop}(hh:A.handled=none)(hi:s.heap.IsTupleIter it t i)(ht:s.heap.IsTuple t xs)(hx:xs[i]?=none)
  (q:∀h' e,Heap.ExtBut it s.heap h'->(∃o,h'.get? e=some o/\o.cls=.type "StopIteration")->E (.ref e) { s with heap:=h' }):wpAny (model prog w) A (Builtin.SmallTypes.nextOf (.ref it)) Q E s:=by
 obtain⟨oi,e1,c1,d1⟩:=id hi;obtain⟨ot,e2,c2,n2,d2⟩:=id ht;unfold Builtin.SmallTypes.nextOf;refine wpAny_bind (wpAny_callSpecial?_slot (name:=Str.ofString "__next__") hi.typeIs F.slot_tuple_iterator_next (wpAny_call_entry F.slot_tuple_iterator_next hi.typeIs F.entry_tuple_iterator_next (show wpAny _ _ (field (.ref it) 0 >>= _) _ _ s from wpAny_bind (wpAny_field e1 d1 (x:=.ref t) rfl ?_)) (F.args_tuple_iterator_next_1 _)));show wpAny _ _ (if (Value.ref t == Value.none)=true then _ else _) _ _ s;rw[if_neg (λz:(Value.ref t == Value.none)=true=>Bool.false_ne_true z)];refine(show wpAny _ _ (field (.ref it) 1 >>= _) _ _ s from wpAny_bind (wpAny_field e1 d1 (x:=.int i 0) rfl (show wpAny _ _ (seqItems? (.ref t) >>= _) _ _ s from wpAny_bind (wpAny_seqItems e2 d2 ?_))));simp only[hx,Int.toNat_natCast];refine wpAny_bind (wpAny_rule (wpAny_bind (wpAny_setField e1 d1 (by simp) (show wpAny _ _ (newExc (.type "StopIteration") [] >>= _) _ _ _ from wpAny_bind ?_))));simp only[newTuple,newExc];refine wpAny_bind (wpAny_newObj_type (wpAny_bind (m:=firstArgMember _ _) (wpAny_of_eq (a:=Value.none) (by first|rfl |(simp only[firstArgMember];rfl)) (wpAny_newObj_type ?_ (by size_fits)))) (by size_fits));simp only[raiseNew];refine wpAny_bind (wpAny_handled ?_)
 first |(rw[hh]) |(rw[show A.in1.handled=none from hh])
 exact wpAny_bind (wpAny_pure (wpAny_throw (q _ _ (((Heap.SameBut.update ..).extBut.push _).push _) ⟨_,Heap.get?_push_size _ rfl,rfl⟩)))
end
def zIt(b:Bool)(h:Heap)(it l:Addr)(i:Nat):Prop:=if b=true then h.IsTupleIter it l i else h.IsListIter it l i
def zSq(b:Bool)(h:Heap)(l:Addr)(xs:Array Value):Prop:=if b=true then h.IsTuple l xs else h.IsList l xs
def zOb(b:Bool)(l:Addr):Obj:={ cls:=.type (if b=true then "tuple_iterator" else "list_iterator"),data:=.fields #[.ref l,.int 0 0] }
theorem zIt.at{b:Bool}{h h':Heap}{it l:Addr}{i:Nat}(x:zIt b h it l i)(e:∀o,h.get? it=some o->h'.get? it=some o):zIt b h' it l i:=by
 cases b
 ·exact Heap.IsListIter.at (show h.IsListIter it l i from x) e
 ·exact Heap.IsTupleIter.at (show h.IsTupleIter it l i from x) e
theorem zIt.but{b:Bool}{h h':Heap}{it l c:Addr}{i:Nat}(x:zIt b h it l i)(e:Heap.ExtBut c h h')(n:it≠c):zIt b h' it l i:=x.at λo q=>e it o n q
theorem zSq.but{b:Bool}{h h':Heap}{l c:Addr}{xs:Array Value}(x:zSq b h l xs)(e:Heap.ExtBut c h h')(n:l≠c):zSq b h' l xs:=by
 cases b
 ·exact Heap.IsList.extBut (show h.IsList l xs from x) e n
 ·exact Heap.IsTuple.extBut (show h.IsTuple l xs from x) e n
theorem zSq.push{b:Bool}{h:Heap}{l:Addr}{xs:Array Value}(x:zSq b h l xs)(o:Obj):zSq b (h.push o) l xs:=by
 cases b
 ·exact Heap.IsList.push (show h.IsList l xs from x) o
 ·exact Heap.IsTuple.push (show h.IsTuple l xs from x) o
theorem zSq.lt{b:Bool}{h:Heap}{l:Addr}{xs:Array Value}(x:zSq b h l xs):l<h.objs.size:=by
 cases b
 ·obtain⟨o,e,_⟩:=(show h.IsList l xs from x)
  exact Heap.lt_size e
 ·obtain⟨o,e,_⟩:=(show h.IsTuple l xs from x)
  exact Heap.lt_size e
theorem zIt.own{b:Bool}{h:Heap}{it l:Addr}{i:Nat}(x:zIt b h it l i):∃o,h.get? it=some o/\∀v,o.data ≠ .cell v:=by
 cases b
 ·obtain⟨o,e,c,d⟩:=(show h.IsListIter it l i from x)
  exact⟨o,e,λv q=>by rw[d]at q;cases q⟩
 ·obtain⟨o,e,c,d⟩:=(show h.IsTupleIter it l i from x)
  exact⟨o,e,λv q=>by rw[d]at q;cases q⟩
section
variable {prog:Program}{w:World}{A:Around}{E:Value->Shared->Prop}{s:Shared}
theorem jt{b:Bool}{it l:Addr}{i:Nat}{xs:Array Value}{x:Value}{Q:Value->Shared->Prop}(hi:zIt b s.heap it l i)(hl:zSq b s.heap l xs)(hx:xs[i]?=some x)
  (q:∀h',zIt b h' it l (i+1)->Heap.SameBut it s.heap h'->Q x { s with heap:=h' }):wpAny (model prog w) A (Builtin.SmallTypes.nextOf (.ref it)) Q E s:=by
 cases b
 ·exact wpAny_nextOf_list_item hi hl hx q
 ·exact zgz hi hl hx q
theorem zdf{b:Bool}{it l:Addr}{i:Nat}{xs:Array Value}{Q:Value->Shared->Prop}(hh:A.handled=none)(hi:zIt b s.heap it l i)(hl:zSq b s.heap l xs)(hx:xs[i]?=none)
  (q:∀h' e,Heap.ExtBut it s.heap h'->(∃o,h'.get? e=some o/\o.cls=.type "StopIteration")->E (.ref e) { s with heap:=h' }):wpAny (model prog w) A (Builtin.SmallTypes.nextOf (.ref it)) Q E s:=by
 cases b
 ·exact wpAny_nextOf_list_end hh hi hl hx q
 ·exact zjq hh hi hl hx q
theorem zo8{b:Bool}{l:Addr}{xs:Array Value}(hl:zSq b s.heap l xs){Q:Value->Shared->Prop}(q:Q (.ref s.heap.objs.size) { s with heap:=s.heap.push (zOb b l) }):wpAny (model prog w) A (pyIter (.ref l)) Q E s:=by
 cases b
 ·exact wpAny_pyIter_list hl q
 ·exact wpAny_pyIter_tuple hl q
theorem zjr{b1 b2:Bool}{z TI TO i1 i2 l1 l2:Addr}{k1 k2:Nat}{xs ys:Array Value}{x y a b:Value}{Q:Value->Shared->Prop}(D:ZipApart z TI TO i1 i2 l1 l2)(hz:IsZip s.heap z TI TO .none)(hI:IsPair s.heap TI (.ref i1) (.ref i2))(hO:IsPair s.heap TO a b)
  (h1:zIt b1 s.heap i1 l1 k1) (h2:zIt b2 s.heap i2 l2 k2) (q1:zSq b1 s.heap l1 xs) (q2:zSq b2 s.heap l2 ys) (hx:xs[k1]?=some x) (hy:ys[k2]?=some y)
  (q:∀h',IsZip h' z TI TO (rawInt s.heap.objs.size)->IsPair h' TO x y->zIt b1 h' i1 l1 (k1+1)->zIt b2 h' i2 l2 (k2+1)->IsPair h' s.heap.objs.size x y->h'.objs.size=s.heap.objs.size+1 ->
   (∀c o,c≠z->c≠TO->c≠i1->c≠i2->s.heap.get? c=some o->h'.get? c=some o)->Q (.ref s.heap.objs.size) { s with heap:=h' }) :
  wpAny (model prog w) A (Builtin.«zip.__next__» ⟨[.ref z],[]⟩) (λfin s'=>∃v,fin=.done (.ret v)/\Q v s') E s:=by
 refine(show wpAny _ _ (field (.ref z) 2 >>= _) _ _ _ from wpAny_bind (wpAny_field hz rfl (x:=.bool false) rfl (show wpAny _ _ (field (.ref z) 3 >>= _) _ _ _ from wpAny_bind (wpAny_field hz rfl (x:=.ref TI) rfl (wpAny_bind (wpAny_seqItems hI rfl (show wpAny _ _ (Builtin.SmallTypes.ownedTupleIsFree (.ref z) >>= _) _ _ _ from wpAny_bind ?_)))))));unfold Builtin.SmallTypes.ownedTupleIsFree;refine wpAny_bind (wpAny_field hz rfl (x:=.none) rfl (wpAny_pure ?_));simp only[if_true];refine wpAny_bind (wpAny_rule (wpAny_bind (wpAny_field hz rfl (x:=.ref TO) rfl (wpAny_bind (wpAny_setField_rec hz (by simp) λg1 z1 s1=>wpAny_bind ?_)))))
 replace z1:IsZip g1 z TI TO .ellipsis:=z1
 simp only[List.zipIdx_nil,List.zipIdx_cons,List.forIn_nil,List.forIn_cons];refine wpAny_bind (wpAny_bind (wpAny_onRaise (show wpAny _ _ (Builtin.SmallTypes.nextOf (.ref i1) >>= _) _ _ _ from wpAny_bind (jt (h1.but s1.extBut D.i1z) (q1.but s1.extBut D.l1z) hx λg2 t2 s2=>wpAny_pure ?_))));have O2:IsPair g2 TO a b:=s2.extBut _ _ D.TOi1 (s1.extBut _ _ D.TOz hO);refine wpAny_bind (wpAny_seqItems O2 rfl (wpAny_bind (wpAny_updateSeq_pair O2 λg3 O3 s3=>wpAny_bind (wpAny_letGo (wpAny_pure ?_)))))
 replace O3:IsPair g3 TO x b:=O3
 refine wpAny_bind (wpAny_bind (wpAny_onRaise (show wpAny _ _ (Builtin.SmallTypes.nextOf (.ref i2) >>= _) _ _ _ from wpAny_bind (jt (((h2.but s1.extBut D.i2z).but s2.extBut D.i12.symm).but s3.extBut D.TOi2.symm) (((q2.but s1.extBut D.l2z).but s2.extBut D.l2i1).but s3.extBut D.l2TO) hy λg4 t4 s4=>wpAny_pure ?_))));have O4:IsPair g4 TO x b:=s4.extBut _ _ D.TOi2 O3;refine wpAny_bind (wpAny_seqItems O4 rfl (wpAny_bind (wpAny_updateSeq_pair O4 λg5 O5 s5=>wpAny_bind (wpAny_letGo (wpAny_pure (wpAny_pure ?_))))))
 replace O5:IsPair g5 TO x y:=O5
 refine wpAny_bind (wpAny_seqItems O5 rfl (wpAny_bind (wpAny_newTuple ?_)));have sz:g5.objs.size=s.heap.objs.size:=by rw[s5.1,s4.1,s3.1,s2.1,s1.1]
 have z5:IsZip g5 z TI TO .ellipsis:=s5.extBut _ _ D.TOz.symm (s4.extBut _ _ D.i2z.symm (s3.extBut _ _ D.TOz.symm (s2.extBut _ _ D.i1z.symm z1)));have k5:∀c o,c≠z->c≠TO->c≠i1->c≠i2->s.heap.get? c=some o->g5.get? c=some o:=λc o n1 n2 n3 n4 e=>s5.extBut _ _ n2 (s4.extBut _ _ n4 (s3.extBut _ _ n2 (s2.extBut _ _ n3 (s1.extBut _ _ n1 e))));have t5:zIt b1 g5 i1 l1 (k1+1):=((t2.but s3.extBut D.TOi1.symm).but s4.extBut D.i12).but s5.extBut D.TOi1.symm;have u5:zIt b2 g5 i2 l2 (k2+1):=t4.but s5.extBut D.TOi2.symm;have lz:z<g5.objs.size:=Heap.lt_size z5;refine(show wpAny _ _ (Builtin.SmallTypes.ownedTupleHandOut (.ref z) (.ref g5.objs.size) >>= _) _ _ _ from wpAny_bind ?_);unfold Builtin.SmallTypes.ownedTupleHandOut;have z6:IsZip (g5.push { cls:=.type "tuple",data:=.seq #[x,y] }) z TI TO .ellipsis:=Heap.get?_push_of_some _ z5;refine wpAny_bind (wpAny_setField_rec z6 (by simp) λg7 z7 s7=>?_)
 replace z7:IsZip g7 z TI TO (rawInt g5.objs.size):=z7
 refine wpAny_setField_rec z7 (by simp) λg8 z8 s8=>?_
 replace z8:IsZip g8 z TI TO (rawInt g5.objs.size):=z8
 have up:∀c o,c≠z->g5.get? c=some o->g8.get? c=some o:=λc o n e=>s8.extBut _ _ n (s7.extBut _ _ n (Heap.get?_push_of_some _ e));have p8:IsPair g8 g5.objs.size x y:=s8.extBut _ _ (Nat.ne_of_gt lz) (s7.extBut _ _ (Nat.ne_of_gt lz) (Heap.get?_push_size _ rfl));have n8:g8.objs.size=g5.objs.size+1:=by rw[s8.1,s7.1,Heap.size_push]
 rw[sz]at z8 p8 n8;refine wpAny_pure ⟨_,rfl,(show Q (.ref g5.objs.size) _ from ?_)⟩;rw[sz];exact q g8 z8 (up _ _ D.TOz O5) (t5.at λo e=>up _ o D.i1z e) (u5.at λo e=>up _ o D.i2z e) p8 n8 λc o n1 n2 n3 n4 e=>up c o n1 (k5 c o n1 n2 n3 n4 e)
theorem zlc{b1 b2:Bool}{z TI TO i1 i2 l1 l2:Addr}{k1 k2:Nat}{xs ys:Array Value}{a b:Value}{Q:Fin->Shared->Prop}(hh:A.handled=none)(D:ZipApart z TI TO i1 i2 l1 l2)(hz:IsZip s.heap z TI TO .none)(hI:IsPair s.heap TI (.ref i1) (.ref i2))(hO:IsPair s.heap TO a b)
  (h1:zIt b1 s.heap i1 l1 k1) (h2:zIt b2 s.heap i2 l2 k2) (q1:zSq b1 s.heap l1 xs) (q2:zSq b2 s.heap l2 ys) (he:xs[k1]?=none\/ys[k2]?=none)
  (q:∀h' e,(∀c o,c≠z->c≠TO->c≠i1->c≠i2->s.heap.get? c=some o->h'.get? c=some o)->(∃o,h'.get? e=some o/\o.cls=.type "StopIteration")->E (.ref e) { s with heap:=h' }) :
  wpAny (model prog w) A (Builtin.«zip.__next__» ⟨[.ref z],[]⟩) Q E s:=by
 refine(show wpAny _ _ (field (.ref z) 2 >>= _) _ _ _ from wpAny_bind (wpAny_field hz rfl (x:=.bool false) rfl (show wpAny _ _ (field (.ref z) 3 >>= _) _ _ _ from wpAny_bind (wpAny_field hz rfl (x:=.ref TI) rfl (wpAny_bind (wpAny_seqItems hI rfl (show wpAny _ _ (Builtin.SmallTypes.ownedTupleIsFree (.ref z) >>= _) _ _ _ from wpAny_bind ?_)))))));unfold Builtin.SmallTypes.ownedTupleIsFree;refine wpAny_bind (wpAny_field hz rfl (x:=.none) rfl (wpAny_pure ?_));simp only[if_true];refine wpAny_bind (wpAny_rule (wpAny_bind (wpAny_field hz rfl (x:=.ref TO) rfl (wpAny_bind (wpAny_setField_rec hz (by simp) λg1 z1 s1=>wpAny_bind ?_)))))
 replace z1:IsZip g1 z TI TO .ellipsis:=z1
 simp only[List.zipIdx_nil,List.zipIdx_cons,List.forIn_nil,List.forIn_cons]
 cases hx:xs[k1]? with
 |none=>
  refine wpAny_bind (wpAny_bind (wpAny_onRaise (show wpAny _ _ (Builtin.SmallTypes.nextOf (.ref i1) >>= _) _ _ _ from wpAny_bind (zdf hh (h1.but s1.extBut D.i1z) (q1.but s1.extBut D.l1z) hx λg2 e s2 ⟨oe,ee,ce⟩=>?_))));have z2:IsZip g2 z TI TO .ellipsis:=s2 _ _ D.i1z.symm z1;have nez:e≠z:=λt=>by subst t;rw[z2]at ee;cases ee;simp at ce
  exact wpAny_setField_rec z2 (by simp) λg3 _ s3=>q g3 e (λc o n1 _ n3 _ t=>s3.extBut _ _ n1 (s2 _ _ n3 (s1.extBut _ _ n1 t))) ⟨oe,s3.extBut _ _ nez ee,ce⟩
 |some x=>
  have hy:ys[k2]?=none:=he.resolve_left (by rw[hx];exact λt=>nomatch t);refine wpAny_bind (wpAny_bind (wpAny_onRaise (show wpAny _ _ (Builtin.SmallTypes.nextOf (.ref i1) >>= _) _ _ _ from wpAny_bind (jt (h1.but s1.extBut D.i1z) (q1.but s1.extBut D.l1z) hx λg2 t2 s2=>wpAny_pure ?_))));have O2:IsPair g2 TO a b:=s2.extBut _ _ D.TOi1 (s1.extBut _ _ D.TOz hO);refine wpAny_bind (wpAny_seqItems O2 rfl (wpAny_bind (wpAny_updateSeq_pair O2 λg3 O3 s3=>wpAny_bind (wpAny_letGo (wpAny_pure ?_)))));refine wpAny_bind (wpAny_bind (wpAny_onRaise (show wpAny _ _ (Builtin.SmallTypes.nextOf (.ref i2) >>= _) _ _ _ from wpAny_bind (zdf hh (((h2.but s1.extBut D.i2z).but s2.extBut D.i12.symm).but s3.extBut D.TOi2.symm) (((q2.but s1.extBut D.l2z).but s2.extBut D.l2i1).but s3.extBut D.l2TO) hy λg4 e s4 ⟨oe,ee,ce⟩=>?_))));have z4:IsZip g4 z TI TO .ellipsis:=s4 _ _ D.i2z.symm (s3.extBut _ _ D.TOz.symm (s2.extBut _ _ D.i1z.symm z1));have nez:e≠z:=λt=>by subst t;rw[z4]at ee;cases ee;simp at ce
  exact wpAny_setField_rec z4 (by simp) λg5 _ s5=>q g5 e (λc o n1 n2 n3 n4 t=>s5.extBut _ _ n1 (s4 _ _ n4 (s3.extBut _ _ n2 (s2.extBut _ _ n3 (s1.extBut _ _ n1 t))))) ⟨oe,s5.extBut _ _ nez ee,ce⟩
theorem zb5{b1 b2:Bool}{z TI TO i1 i2 l1 l2:Addr}{k1 k2:Nat}{xs ys:Array Value}{x y a b:Value}{Q:Option Value->Shared->Prop}(D:ZipApart z TI TO i1 i2 l1 l2)(hz:IsZip s.heap z TI TO .none)(hI:IsPair s.heap TI (.ref i1) (.ref i2))(hO:IsPair s.heap TO a b)
  (h1:zIt b1 s.heap i1 l1 k1) (h2:zIt b2 s.heap i2 l2 k2) (q1:zSq b1 s.heap l1 xs) (q2:zSq b2 s.heap l2 ys) (hx:xs[k1]?=some x) (hy:ys[k2]?=some y)
  (q:∀h',IsZip h' z TI TO (rawInt s.heap.objs.size)->IsPair h' TO x y->zIt b1 h' i1 l1 (k1+1)->zIt b2 h' i2 l2 (k2+1)->IsPair h' s.heap.objs.size x y->h'.objs.size=s.heap.objs.size+1 ->
   (∀c o,c≠z->c≠TO->c≠i1->c≠i2->s.heap.get? c=some o->h'.get? c=some o)->Q (some (.ref s.heap.objs.size)) { s with heap:=h' }):wpAny (model prog w) A (pyNext (.ref z)) Q E s:=by
 have hT:s.TypeIs (.ref z) "zip" :=⟨_,hz,rfl⟩
 unfold pyNext;exact wpAny_bind (wpAny_attempt (wpAny_callSpecial?_slot (name:=Str.ofString "__next__") hT F.slot_zip_next (wpAny_call_entry F.slot_zip_next hT F.entry_zip_next (zjr D hz hI hO h1 h2 q1 q2 hx hy λh' a1 a2 a3 a4 a5 a6 a7=>wpAny_pure (q h' a1 a2 a3 a4 a5 a6 a7)) (F.args_zip_next_1 _))))
theorem zc0{b1 b2:Bool}{z TI TO i1 i2 l1 l2:Addr}{k1 k2:Nat}{xs ys:Array Value}{a b:Value}{Q:Option Value->Shared->Prop}(hh:A.handled=none)(D:ZipApart z TI TO i1 i2 l1 l2)(hz:IsZip s.heap z TI TO .none)(hI:IsPair s.heap TI (.ref i1) (.ref i2))(hO:IsPair s.heap TO a b)
  (h1:zIt b1 s.heap i1 l1 k1) (h2:zIt b2 s.heap i2 l2 k2) (q1:zSq b1 s.heap l1 xs) (q2:zSq b2 s.heap l2 ys) (he:xs[k1]?=none\/ys[k2]?=none)
  (q:∀h',(∀c o,c≠z->c≠TO->c≠i1->c≠i2->s.heap.get? c=some o->h'.get? c=some o)->Q none { s with heap:=h' }):wpAny (model prog w) A (pyNext (.ref z)) Q E s:=by
 have hT:s.TypeIs (.ref z) "zip" :=⟨_,hz,rfl⟩
 unfold pyNext;exact wpAny_bind (wpAny_attempt (wpAny_callSpecial?_slot (name:=Str.ofString "__next__") hT F.slot_zip_next (wpAny_call_entry F.slot_zip_next hT F.entry_zip_next (zlc hh D hz hI hO h1 h2 q1 q2 he λh' e k ⟨o,ho,hc⟩=>wpAny_bind (wpAny_isInstance (T := "StopIteration") (b:=true) ⟨o,ho,hc⟩ isSubtype_stop (wpAny_pure (q _ k)))) (F.args_zip_next_1 _))))
end
abbrev zG1(b1:Bool)(h:Heap)(l1:Addr):Heap:=h.push (zOb b1 l1)
abbrev zG2(b1 b2:Bool)(h:Heap)(l1 l2:Addr):Heap:=(zG1 b1 h l1).push (zOb b2 l2)
abbrev zG3(b1 b2:Bool)(h:Heap)(l1 l2:Addr):Heap:=(zG2 b1 b2 h l1 l2).push { cls:=.type "tuple",data:=.seq #[.ref h.objs.size,.ref (zG1 b1 h l1).objs.size] }
abbrev zG4(b1 b2:Bool)(h:Heap)(l1 l2:Addr):Heap:=(zG3 b1 b2 h l1 l2).push { cls:=.type "tuple",data:=.seq #[.none,.none] }
abbrev zG5(b1 b2:Bool)(h:Heap)(l1 l2:Addr):Heap:=(zG4 b1 b2 h l1 l2).push { cls:=.type "zip",data:=.fields #[.none,.bool false,.bool false,.ref (zG2 b1 b2 h l1 l2).objs.size,.ref (zG3 b1 b2 h l1 l2).objs.size] }
theorem zld(b1 b2:Bool)(l1 l2:Addr)(xs ys:Array Value):Meets (Builtin.«zip.__new__» ⟨[.type "zip",.ref l1,.ref l2],[]⟩) (λ_ R s=>zSq b1 s.heap l1 xs/\zSq b2 s.heap l2 ys/\R (.ok (.ret (.ref (zG4 b1 b2 s.heap l1 l2).objs.size))) { s with heap:=zG5 b1 b2 s.heap l1 l2 }) :=
 .of_wp λprog w A R s h=>by
  obtain⟨hp,g,d,tk,os⟩:=s;obtain⟨q1,q2,h⟩:=h;have hsub:=sub_zip;have L1:zSq b1 (Shared.heap ⟨hp,g,d,tk,os⟩) l1 xs:=q1;have L2:zSq b2 (Shared.heap ⟨hp.push (zOb b1 l1),g,d,tk,os⟩) l2 ys:=q2.push _
  wp_walk using zo8 L1,zo8 L2
  exact⟨_,rfl,h⟩
theorem zjs{prog:Program}{w:World}{A:Around}{E:Value->Shared->Prop}{s:Shared}{b1 b2:Bool}{l1 l2:Addr}{xs ys:Array Value}{Q:Value->Shared->Prop}(q1:zSq b1 s.heap l1 xs)(q2:zSq b2 s.heap l2 ys)
  (h:∀h',IsZip h' (s.heap.objs.size+4) (s.heap.objs.size+2) (s.heap.objs.size+3) .none->IsPair h' (s.heap.objs.size+2) (.ref s.heap.objs.size) (.ref (s.heap.objs.size+1))->IsPair h' (s.heap.objs.size+3) .none .none ->
   zIt b1 h' s.heap.objs.size l1 0->zIt b2 h' (s.heap.objs.size+1) l2 0->(∀c o,s.heap.get? c=some o->h'.get? c=some o)->Q (.ref (s.heap.objs.size+4)) { s with heap:=h' }) :
  wpAny (model prog w) A (call (.type "zip") [.ref l1,.ref l2]) Q E s:=by
 refine callType_new F.called_zip (by decide) (F.typeCall_zip_2 _ _) (F.newCall_zip_2 _ _) (λobj=>F.args_object_init_3 obj _ _) F.entry_zip_new (zld b1 b2 l1 l2 xs ys) ⟨q1,q2,?_⟩;have z1:(zG1 b1 s.heap l1).objs.size=s.heap.objs.size+1:=Heap.size_push ..;have z2:(zG2 b1 b2 s.heap l1 l2).objs.size=s.heap.objs.size+2:=by rw[Heap.size_push,z1]
 have z3:(zG3 b1 b2 s.heap l1 l2).objs.size=s.heap.objs.size+3:=by rw[Heap.size_push,z2]
 have z4:(zG4 b1 b2 s.heap l1 l2).objs.size=s.heap.objs.size+4:=by rw[Heap.size_push,z3]
 have g5:(zG5 b1 b2 s.heap l1 l2).get? (zG4 b1 b2 s.heap l1 l2).objs.size=some _:=Heap.get?_push_size _ rfl;have g4:(zG5 b1 b2 s.heap l1 l2).get? (zG3 b1 b2 s.heap l1 l2).objs.size=some _:=Heap.get?_push_of_some _ (Heap.get?_push_size _ rfl);have g3:(zG5 b1 b2 s.heap l1 l2).get? (zG2 b1 b2 s.heap l1 l2).objs.size=some _:=Heap.get?_push_of_some _ (Heap.get?_push_of_some _ (Heap.get?_push_size _ rfl));have g2:(zG5 b1 b2 s.heap l1 l2).get? (zG1 b1 s.heap l1).objs.size=some (zOb b2 l2):=Heap.get?_push_of_some _ (Heap.get?_push_of_some _ (Heap.get?_push_of_some _ (Heap.get?_push_size _ rfl)));have g1:(zG5 b1 b2 s.heap l1 l2).get? s.heap.objs.size=some (zOb b1 l1):=Heap.get?_push_of_some _ (Heap.get?_push_of_some _ (Heap.get?_push_of_some _ (Heap.get?_push_of_some _ (Heap.get?_push_size _ rfl))));show _/\_;rw[z2,z3,z4]at g5;rw[z1,z2]at g3;rw[z3]at g4;rw[z1]at g2;rw[z4];have i1:zIt b1 (zG5 b1 b2 s.heap l1 l2) s.heap.objs.size l1 0:=by
  cases b1
  ·exact⟨_,g1,rfl,rfl⟩
  ·exact⟨_,g1,rfl,rfl⟩
 have i2:zIt b2 (zG5 b1 b2 s.heap l1 l2) (s.heap.objs.size+1) l2 0:=by
  cases b2
  ·exact⟨_,g2,rfl,rfl⟩
  ·exact⟨_,g2,rfl,rfl⟩
 exact⟨⟨_,g5,rfl⟩,h _ g5 g3 g4 i1 i2 λc o x=>Heap.get?_push_of_some _ (Heap.get?_push_of_some _ (Heap.get?_push_of_some _ (Heap.get?_push_of_some _ (Heap.get?_push_of_some _ x))))⟩
def SqG(b:Bool)(K:PySem.W.Frag)(H:Hp)(a:Addr)(xs:List V):Prop:=if b=true then SqT K H a xs else SqL K H a xs
theorem Inv.sqG{X:Cx}{pins:List (Addr×Obj)}{σ:St}{H:Hp}{s:Shared}{b:Bool}{a:Addr}{xs:List V}(I:Inv X pins σ H s)(h:SqG b X.K H a xs):∃its:List Value,Vals xs its/\zSq b s.heap a its.toArray/\xs.length<=sizeLine:=by
 cases b
 ·obtain⟨its,r,p,z⟩:=I.list (show SqL X.K H a xs from h);exact⟨its,r,p.isList,z⟩
 ·obtain⟨its,r,p,z⟩:=I.tuple (show SqT X.K H a xs from h);exact⟨its,r,p,z⟩
theorem Inv.sqG_inj{X:Cx}{pins:List (Addr×Obj)}{σ:St}{H:Hp}{s:Shared}{b:Bool}{a:Addr}{xs ys:List V}(I:Inv X pins σ H s)(h:SqG b X.K H a xs)(h':SqG b X.K H a ys):xs=ys:=by
 cases b
 ·exact I.list_inj (show SqL X.K H a xs from h) h'
 ·exact I.tuple_inj (show SqT X.K H a xs from h) h'
def Izg(b1 b2:Bool)(K:PySem.W.Frag)(a b:Addr):It :=
 ⟨λi H=>∃xs ys x y,SqG b1 K H a xs/\SqG b2 K H b ys/\xs[i]?=some x/\ys[i]?=some y,λi H v H'=>∃p x y,H p=none/\v=.ref p/\H'=upd H p (.tup [x,y])/\(∀xs,SqG b1 K H a xs->xs[i]?=some x)/\∀ys,SqG b2 K H b ys->ys[i]?=some y,λi H=>∃xs ys,SqG b1 K H a xs/\SqG b2 K H b ys/\(xs.length<=i\/ys.length<=i)⟩
theorem zjt{P:Program}{w:World}{K:PySem.W.Frag}{b1 b2:Bool}{elts:List Expr}{x1}{tpos:Pos}{l1 l2 z TI TO i1 i2:Addr}(D:ZipApart z TI TO i1 i2 l1 l2):
  zfh P w K (.Tuple elts x1 tpos) (Izg b1 b2 K l1 l2) [z,TI,TO,i1,i2] z (λi h=>IsZip h z TI TO .none/\IsPair h TI (.ref i1) (.ref i2)/\(∃a b,IsPair h TO a b)/\zIt b1 h i1 l1 i/\zIt b2 h i2 l2 i) where
 mem:=by simp
 obj:=λi h st b hb=>by
  obtain⟨hz,hTI,⟨a,b',hTO⟩,h1,h2⟩:=st;simp only[List.mem_cons,List.not_mem_nil,or_false]at hb;rcases hb with rfl|rfl|rfl|rfl|rfl
  ·exact⟨_,hz,λv q=>by cases (show Data.fields _=Data.cell v from q)⟩
  ·exact⟨_,hTI,λv q=>by cases (show Data.seq _ _=Data.cell v from q)⟩
  ·exact⟨_,hTO,λv q=>by cases (show Data.seq _ _=Data.cell v from q)⟩
  ·exact h1.own
  ·exact h2.own
 keep:=λi h h' st k=>by
  obtain⟨hz,hTI,⟨a,b',hTO⟩,h1,h2⟩:=st;exact⟨k _ (by simp) _ hz,k _ (by simp) _ hTI,⟨a,b',k _ (by simp) _ hTO⟩,h1.at λo e=>k i1 (by simp) o e,h2.at λo e=>k i2 (by simp) o e⟩
 item:=by
  intro X hP hw hK hc i pins s σ H E I hf st hg;subst hP hw hK;obtain⟨xs,ys,x,y,hq1,hq2,hx,hy⟩:=hg;obtain⟨hz,hTI,⟨a,b',hTO⟩,h1,h2⟩:=st;obtain⟨its1,rv1,p1,hz1⟩:=I.sqG hq1;obtain⟨its2,rv2,p2,hz2⟩:=I.sqG hq2;obtain⟨u1,hu1,ru1⟩:=rv1.get hx;obtain⟨u2,hu2,ru2⟩:=rv2.get hy;refine zb5 D hz hTI hTO h1 h2 p1 p2 (x:=u1) (y:=u2) (by simpa using hu1) (by simpa using hu2) λh' hz' hTO' h1' h2' hp' hsz hk=>⟨_,rfl,?_⟩
  refine wpAny_letOwnedTupleGo_zip hz' λh'' hz'' hsb=>?_;have ne:s.heap.objs.size≠z:=λq=>by have:=Heap.lt_size hz;rw[<-q]at this;exact Nat.lt_irrefl _ this
  have hp2:IsPair h'' s.heap.objs.size u1 u2:=(hsb.2 _ ne).trans hp';have nb:∀c o,s.heap.get? c=some o->c≠s.heap.objs.size:=λc o e=>Nat.ne_of_lt (Heap.lt_size e);have I1:Inv X pins σ (upd H s.heap.objs.size (.tup [x,y])) { s with heap:=h'',toks:=s.toks }:=by
   refine I.turnedNew (ch:=[z,TI,TO,i1,i2]) hf (Nat.le_refl _) (λb u hb e=>?_) ⟨by simp[sizeLine_eq],[u1,u2],.cons ru1 (.cons ru2 .nil),?_⟩
   ·simp only[List.mem_cons,List.not_mem_nil,or_false,not_or]at hb;exact(hsb.2 b hb.1).trans (hk b u hb.1 hb.2.2.1 hb.2.2.2.1 hb.2.2.2.2 e)
   ·exact⟨_,hp2,rfl,⟨_,rfl⟩,rfl⟩
  refine⟨.ref s.heap.objs.size,_,I1,rfl,⟨_,x,y,I.hok.fresh (Nat.le_refl _),rfl,rfl,λxs' h=>by rw[I.sqG_inj h hq1];exact hx,λys' h=>by rw[I.sqG_inj h hq2];exact hy⟩,⟨hz'',?_,?_,?_,?_⟩,λb hb=>?_⟩
  ·exact(hsb.2 _ D.TIz).trans (hk _ _ D.TIz D.TITO D.TIi1 D.TIi2 hTI)
  ·exact⟨_,_,(hsb.2 _ D.TOz).trans hTO'⟩
  ·exact h1'.at λo e=>(hsb.2 _ D.i1z).trans e
  ·exact h2'.at λo e=>(hsb.2 _ D.i2z).trans e
  ·rw[zh]
   ·exact(hf b hb).1
   ·intro q;subst q;simp only[List.mem_cons,List.not_mem_nil,or_false]at hb;obtain⟨o1,e1,_⟩:=h1.own;obtain⟨o2,e2,_⟩:=h2.own;rcases hb with q|q|q|q|q
    ·exact nb _ _ hz q.symm
    ·exact nb _ _ hTI q.symm
    ·exact nb _ _ hTO q.symm
    ·exact nb _ _ e1 q.symm
    ·exact nb _ _ e2 q.symm
 done:=by
  intro X hP hw hK hc i pins s σ H E I hf st hg;subst hP hw hK;obtain⟨xs,ys,hq1,hq2,hl⟩:=hg;obtain⟨hz,hTI,⟨a,b',hTO⟩,h1,h2⟩:=st;obtain⟨its1,rv1,p1,hz1⟩:=I.sqG hq1;obtain⟨its2,rv2,p2,hz2⟩:=I.sqG hq2;have e1:=rv1.length;have e2:=rv2.length;refine zc0 (I.ok.hd hc) D hz hTI hTO h1 h2 p1 p2 (by rcases hl with q|q;exact .inl (by simp;omega);exact .inr (by simp;omega)) λh' hk=>⟨rfl,?_⟩
  refine I.turnedL (t':=s.toks) (ch:=[z,TI,TO,i1,i2]) hf λb u hb e=>?_;simp only[List.mem_cons,List.not_mem_nil,or_false,not_or]at hb;exact hk b u hb.1 hb.2.2.1 hb.2.2.2.1 hb.2.2.2.2 e
 self:=λ_ _ _ _ _ st h=>wpAny_pyIter_zip st.1 h
section
variable {X:Cx}
theorem zju{prog:Program}{w:World}{A:Around}{E:Value->Shared->Prop}{s:Shared}{t sl:Addr}{its:Array Value}{vl vu:Value}{lo hi:Option Int}{Q:Value->Shared->Prop}(ht:IsTup s.heap t its)(hs:s.heap.IsSliceOf sl vl vu .none)(pl:IsPart vl lo)(pu:IsPart vu hi)
  (h0:HT.sIx its.size 0 lo=0) (h1:HT.sIx its.size its.size hi=its.size) (h:Q (.ref t) s):wpAny (model prog w) A (getItem (.ref t) (.ref sl)) Q E s:=by
 obtain⟨os,hos,hcs,hds⟩:=id hs;have hTs:s.TypeIs (.ref sl) "slice" :=⟨os,hos,hcs⟩
 unfold getItem
 try with_reducible refine wpAny_holding ?_
 first |(refine wpAny_bind (wpAny_pure ?_))|skip
 refine wpAny_bind (wpAny_sequenceKey ht.typeIs (by decide) (wpAny_bind (wpAny_callSpecial?_slot (name:=Str.ofString "__getitem__") ht.typeIs PyProof.Rows.slot_tuple_getitem (wpAny_call_entry PyProof.Rows.slot_tuple_getitem ht.typeIs entry_tuple_getitem ?_ (args_tuple_getitem _ _)))));refine(show wpAny _ _ (Builtin.Tuple.tupleItemsOf (.ref t) >>= _) _ _ s from wpAny_bind (tupleItemsOf_ ht (wpAny_bind (wpAny_typeOf hTs ?_))));rw[if_pos (by decide)];refine wpAny_bind (HT.sliceApplied_gen hs pl pu ?_);rw[h0,h1];have hy:(((((0:Nat):Int) == 0 && (1:Int) == 1) && (its.size-0 == its.size))=true):=by simp
 show wpAny _ _ (if (((0:Nat):Int) == 0 && (1:Int) == 1 && (its.size-0) == its.size)=true then _ else _) _ _ s;rw[if_pos hy];refine wpAny_bind (m:=Builtin.Tuple.tupleIsExact _) ?_;unfold Builtin.Tuple.tupleIsExact;refine wpAny_bind (wpAny_typeOf ht.typeIs (wpAny_pure ?_));rw[if_pos (by decide)]
 first
  |exact wpAny_bind (wpAny_rule (wpAny_pure ⟨_,rfl,wpAny_pure h⟩))
  |exact wpAny_bind (wpAny_rule (wpAny_bind (wpAny_pure (wpAny_pure ⟨_,rfl,wpAny_pure h⟩))))
  |exact wpAny_bind (wpAny_rule (wpAny_bind (wpAny_pure ⟨_,rfl,wpAny_pure h⟩)))
end
inductive Kn(H:Hp):V->Prop
 |non:Kn H .non
 |bl (b:Bool):Kn H (.bl b)
 |int (i:Int):Kn H (.int i)
 |str (x:Str):Kn H (.str x)
 |lst {a:Addr}{xs:List V} (e:H a=some (.lst xs)):Kn H (.ref a)
 |tup {a:Addr}{xs:List V} (e:H a=some (.tup xs)):Kn H (.ref a)
 |dct {a:Addr}{ks:List (Key×V)} (e:H a=some (.dK ks)):Kn H (.ref a)
def wt(H:Hp):V->Option (List V)
 |.ref a=>match H a with|some (.tup xs)=>some xs|_=>none
 |_=>none
theorem zdg{H:Hp}{a:Addr}{xs:List V}(e:H a=some (.tup xs)):wt H (.ref a)=some xs:=by unfold wt;simp only[e]
def Th:Nat->Hp->V->Prop
 |0,H,x=>Kn H x
 |n+1,H,x=>Kn H x/\∀xs,wt H x=some xs->∀y∈xs,Th n H y
theorem Th.tup{n:Nat}{H:Hp}{a:Addr}{xs:List V}(e:H a=some (.tup xs))(h:∀y∈xs,Th n H y):Th (n+1) H (.ref a) :=
 ⟨.tup e,λys e' y hy=>by rw[zdg e]at e';cases e';exact h y hy⟩
theorem Th.flat{n:Nat}{H:Hp}{x:V}(h:Kn H x)(e:wt H x=none):Th n H x:=by
 cases n with
 |zero=>exact h
 |succ n=>exact⟨h,λxs e'=>by rw[e]at e';cases e'⟩
theorem Th.int(n:Nat)(H:Hp)(i:Int):Th n H (.int i):=Th.flat (.int i) rfl
theorem Th.bl(n:Nat)(H:Hp)(b:Bool):Th n H (.bl b):=Th.flat (.bl b) rfl
theorem Th.str(n:Nat)(H:Hp)(x:Str):Th n H (.str x):=Th.flat (.str x) rfl
theorem Th.non(n:Nat)(H:Hp):Th n H .non:=Th.flat .non rfl
theorem Th.lst(n:Nat){H:Hp}{a:Addr}{xs:List V}(e:H a=some (.lst xs)):Th n H (.ref a):=Th.flat (.lst e) (by unfold wt;simp only[e])
theorem Th.dct(n:Nat){H:Hp}{a:Addr}{ks:List (Key×V)}(e:H a=some (.dK ks)):Th n H (.ref a):=Th.flat (.dct e) (by unfold wt;simp only[e])
theorem Kn.butL{H H':Hp}{p:Addr}{a b:List V}{x:V}(h1:H p=some (.lst a))(h2:H' p=some (.lst b))(s:But p H H')(h:Kn H x):Kn H' x:=by
 cases h with
 |non=>exact .non
 |bl b=>exact .bl b
 |int i=>exact .int i
 |str x=>exact .str x
 |@lst c xs e=>
  by_cases hc:c=p
  ·subst hc;exact .lst h2
  ·exact .lst (s _ _ hc e)
 |tup e=>exact .tup (s _ _ (zh0 e h1 (by intro z;cases z)) e)
 |dct e=>exact .dct (s _ _ (zh0 e h1 (by intro z;cases z)) e)
theorem zb6{H H':Hp}{p:Addr}{a b:List V}{x:V}(h1:H p=some (.lst a))(h2:H' p=some (.lst b))(s:But p H H')(h:Kn H x):wt H' x=wt H x:=by
 cases h with
 |@lst c xs e=>
  by_cases hc:c=p
  ·subst hc;unfold wt;simp only[e,h2]
  ·unfold wt;simp only[e,s _ _ hc e]
 |tup e=>have:=s _ _ (zh0 e h1 (by intro z;cases z)) e;unfold wt;simp only[e,this]
 |dct e=>have:=s _ _ (zh0 e h1 (by intro z;cases z)) e;unfold wt;simp only[e,this]
 |_=>rfl
theorem Th.butL:∀{n:Nat}{H H':Hp}{p:Addr}{a b:List V}{x:V},H p=some (.lst a)->H' p=some (.lst b)->But p H H'->Th n H x->Th n H' x
 |0,_,_,_,_,_,_,h1,h2,s,h=>Kn.butL h1 h2 s h
 |n+1,_,_,_,_,_,_,h1,h2,s,h=>⟨h.1.butL h1 h2 s,λxs e y hy=>Th.butL h1 h2 s (h.2 xs ((zb6 h1 h2 s h.1).symm.trans e) y hy)⟩
theorem Th.pen{n:Nat}{H H':Hp}{p:Addr}{x:V}(h1:Pen H p)(h2:Pen H' p)(s:But p H H')(h:Th n H x):Th n H' x:=by
 obtain⟨a,b,c,e⟩:=h1;obtain⟨a',b',c',e'⟩:=h2;exact Th.butL e e' s h
theorem zle{α:Type}{xs:List α}{k:Int}(h0:0<=k)(h1:k<xs.length):∃v,atI xs k=some v/\v∈xs:=by
 obtain⟨v,h,e⟩:=zqi h0 h1;exact⟨v,h,List.mem_of_getElem? e⟩
def NoD(H:Hp)(x:V):Prop:=∀a,x=.ref a->(∃xs,H a=some (.lst xs))\/∃xs,H a=some (.tup xs)
end L2
namespace L2
end L2
namespace L2
open PySem
theorem zqj{es:List Expr}{x1}{pos:Pos}{rest:List Expr}{env:Env}:starEach (.Tuple es x1 pos::rest) env=(false,eval (.Tuple es x1 pos) env)::starEach rest env:=by rw[starEach];intro e p h;cases h
theorem ym{c j}{pos:Pos}{rest:List Expr}{env:Env}:starEach (.Constant c j pos::rest) env=(false,eval (.Constant c j pos) env)::starEach rest env:=by rw[starEach];intro e p h;cases h
end L2
namespace L2
open PySem PySem.Spec PyProof.Rows
end L2
namespace L2
open PySem
theorem zsx{X:Cx}{e:Expr}{t:TT}(h:PW X e t):PT X e t:=h.pt
end L2
namespace L2
open PySem PySem.Spec PyProof.Rows
theorem NoD.butL{H H':Hp}{p:Addr}{a b:List V}{x:V}(h1:H p=some (.lst a))(h2:H' p=some (.lst b))(s:But p H H')(h:NoD H x):NoD H' x:=λc e=>by
 by_cases hc:c=p
 ·subst hc;exact .inl ⟨b,h2⟩
 ·rcases h c e with⟨xs,q⟩ |⟨xs,q⟩
  ·exact .inl ⟨xs,s _ _ hc q⟩
  ·exact .inr ⟨xs,s _ _ hc q⟩
def Ts:Nat->Hp->V->Prop
 |0,H,x=>Kn H x/\NoD H x
 |n+1,H,x=>Kn H x/\∀xs,wt H x=some xs->∀y∈xs,Ts n H y
theorem Ts.butL:∀{n:Nat}{H H':Hp}{p:Addr}{a b:List V}{x:V},H p=some (.lst a)->H' p=some (.lst b)->But p H H'->Ts n H x->Ts n H' x
 |0,_,_,_,_,_,_,h1,h2,s,h=>⟨h.1.butL h1 h2 s,h.2.butL h1 h2 s⟩
 |n+1,_,_,_,_,_,_,h1,h2,s,h=>⟨h.1.butL h1 h2 s,λxs e y hy=>Ts.butL h1 h2 s (h.2 xs ((zb6 h1 h2 s h.1).symm.trans e) y hy)⟩
theorem Ts.pen{n:Nat}{H H':Hp}{p:Addr}{x:V}(h1:Pen H p)(h2:Pen H' p)(s:But p H H')(h:Ts n H x):Ts n H' x:=by
 obtain⟨a,b,c,e⟩:=h1;obtain⟨a',b',c',e'⟩:=h2;exact Ts.butL e e' s h
theorem Ts.tup{n:Nat}{H:Hp}{a:Addr}{xs:List V}(e:H a=some (.tup xs))(h:∀y∈xs,Ts n H y):Ts (n+1) H (.ref a) :=
 ⟨.tup e,λys e' y hy=>by rw[zdg e]at e';cases e';exact h y hy⟩
theorem Ts.flat{n:Nat}{H:Hp}{x:V}(h:Kn H x)(e:wt H x=none)(d:NoD H x):Ts n H x:=by
 cases n with
 |zero=>exact⟨h,d⟩
 |succ n=>exact⟨h,λxs e'=>by rw[e]at e';cases e'⟩
theorem Ts.int(n:Nat)(H:Hp)(i:Int):Ts n H (.int i):=Ts.flat (.int i) rfl (λ_ z=>by cases z)
theorem Ts.bl(n:Nat)(H:Hp)(b:Bool):Ts n H (.bl b):=Ts.flat (.bl b) rfl (λ_ z=>by cases z)
theorem Ts.str(n:Nat)(H:Hp)(x:Str):Ts n H (.str x):=Ts.flat (.str x) rfl (λ_ z=>by cases z)
theorem Ts.non(n:Nat)(H:Hp):Ts n H .non:=Ts.flat .non rfl (λ_ z=>by cases z)
theorem Ts.lst(n:Nat){H:Hp}{a:Addr}{xs:List V}(e:H a=some (.lst xs)):Ts n H (.ref a):=Ts.flat (.lst e) (by unfold wt;simp only[e]) (λc z=>by cases z;exact .inl ⟨xs,e⟩)
theorem Ts.dct(n:Nat){H:Hp}{a:Addr}{ks:List (Key×V)}(e:H a=some (.dK ks)):Ts (n+1) H (.ref a):=⟨.dct e,λxs e'=>by unfold wt at e';simp only[e]at e';cases e'⟩
open AutoSeq1 (wpAny_loadPart')
section
variable {X:Cx}
end
end L2
namespace L2
end L2
namespace L2
open PySem PySem.Spec PyProof.Rows
section
variable {X:Cx}{a b c d:Expr}{ta tb tc td:TE}{pos:Pos}
end
abbrev D:=PyData
def kD:Key->D
 |.inl i=>.int i
 |.inr x=>.str x
def za3(a:Addr):HO:=.ext λh=>∃(x y z:Int) (tx ty tz:Tok) (n:Nat),h.get? a=some { cls:=.type "list",data:=.seq #[.int x tx,.int y ty,.int z tz] n }
def HO.per:HO->Bool
 |.tup _=>true
 |.frz _ _=>true
 |.ext _=>true
 |_=>false
def Pers(H H':Hp):Prop:=∀a o,H a=some o->o.per=true->H' a=some o
theorem Pers.refl(H:Hp):Pers H H:=λ_ _ h _=>h
theorem Pers.trans{H H1 H2:Hp}(a:Pers H H1)(b:Pers H1 H2):Pers H H2:=λc o h p=>b c o (a c o h p) p
theorem Same.pers{H H':Hp}(s:Same H H'):Pers H H':=λa o h _=>s a o h
theorem Pers.sqT{K:PySem.W.Frag}{H H':Hp}{a:Addr}{xs:List V}(p:Pers H H')(h:SqT K H a xs):SqT K H' a xs:=by
 rcases h with(h |⟨o,h⟩)|h
 ·exact .inl (.inl (p _ _ h rfl))
 ·exact .inl (.inr ⟨o,p _ _ h rfl⟩)
 ·exact .inr h
section
variable (K:PySem.W.Frag)
mutual
inductive Rep(H:Hp):D->V->Prop
 |non:Rep H .none .non
 |bl {b:Bool}:Rep H (.bool b) (.bl b)
 |int {i:Int}:Rep H (.int i) (.int i)
 |str {x:Str}:Rep H (.str x) (.str x)
 |tup {xs:List D}{a:Addr}{vs:List V} (h:SqT K H a vs) (r:Reps H xs vs):Rep H (.tuple xs) (.ref a)
 |lst {xs:List D}{a:Addr}{vs:List V}{o:Obj} (h:H a=some (.frz o (.lst vs))) (r:Reps H xs vs):Rep H (.list xs) (.ref a)
 |dic {kvs:List (D×D)}{a:Addr}{kws:List (Key×V)}{o:Obj} (h:H a=some (.frz o (.dK kws))) (r:RepK H kvs kws):Rep H (.dict kvs) (.ref a)
inductive Reps(H:Hp):List D->List V->Prop
 |nil:Reps H [] []
 |cons {d:D}{v:V}{ds:List D}{vs:List V} (r:Rep H d v) (t:Reps H ds vs):Reps H (d::ds) (v::vs)
inductive RepK(H:Hp):List (D×D)->List (Key×V)->Prop
 |nil:RepK H [] []
 |cons {k:Key}{d:D}{v:V}{ds:List (D×D)}{vs:List (Key×V)} (r:Rep H d v) (t:RepK H ds vs):RepK H ((kD k,d)::ds) ((k,v)::vs)
end
end
section
variable {K:PySem.W.Frag}{H H':Hp}
mutual
theorem Rep.mono(p:Pers H H'):∀{d:D}{v:V},Rep K H d v->Rep K H' d v
 |_,_,.non=>.non
 |_,_,.bl=>.bl
 |_,_,.int=>.int
 |_,_,.str=>.str
 |_,_,.tup h r=>.tup (p.sqT h) (Reps.mono p r)
 |_,_,.lst h r=>.lst (p _ _ h rfl) (Reps.mono p r)
 |_,_,.dic h r=>.dic (p _ _ h rfl) (RepK.mono p r)
theorem Reps.mono(p:Pers H H'):∀{ds:List D}{vs:List V},Reps K H ds vs->Reps K H' ds vs
 |_,_,.nil=>.nil
 |_,_,.cons r t=>.cons (Rep.mono p r) (Reps.mono p t)
theorem RepK.mono(p:Pers H H'):∀{ds:List (D×D)}{vs:List (Key×V)},RepK K H ds vs->RepK K H' ds vs
 |_,_,.nil=>.nil
 |_,_,.cons r t=>.cons (Rep.mono p r) (RepK.mono p t)
end
theorem Reps.length:∀{ds:List D}{vs:List V},Reps K H ds vs->ds.length=vs.length
 |_,_,.nil=>rfl
 |_,_,.cons _ t=>by simp[t.length]
theorem Reps.append:∀{ds es:List D}{vs ws:List V},Reps K H ds vs->Reps K H es ws->Reps K H (ds++es) (vs++ws)
 |_,_,_,_,.nil,s=>s
 |_,_,_,_,.cons r t,s=>.cons r (t.append s)
theorem Reps.get:∀{ds:List D}{vs:List V}{i:Nat}{d:D},Reps K H ds vs->ds[i]?=some d->∃v,vs[i]?=some v/\Rep K H d v
 |_,_,_,_,.nil,e=>by simp at e
 |_,_,0,_,.cons r _,e=>by simp at e;subst e;exact⟨_,rfl,r⟩
 |_,_,i+1,_,.cons _ t,e=>by
  obtain⟨v,h1,h2⟩:=t.get (i:=i) (by simpa using e);exact⟨v,by simpa using h1,h2⟩
theorem Reps.take:∀{ds:List D}{vs:List V} (n:Nat),Reps K H ds vs->Reps K H (ds.take n) (vs.take n)
 |_,_,0,_=>.nil
 |_,_,_+1,.nil=>.nil
 |_,_,n+1,.cons r t=>.cons r (t.take n)
theorem Reps.drop:∀{ds:List D}{vs:List V} (n:Nat),Reps K H ds vs->Reps K H (ds.drop n) (vs.drop n)
 |_,_,0,r=>r
 |_,_,_+1,.nil=>.nil
 |_,_,n+1,.cons _ t=>t.drop n
theorem Reps.set{d:D}{v:V}(r:Rep K H d v):∀{ds:List D}{vs:List V} (i:Nat),Reps K H ds vs->Reps K H (ds.set i d) (vs.set i v)
 |_,_,_,.nil=>.nil
 |_,_,0,.cons _ t=>.cons r t
 |_,_,i+1,.cons q t=>.cons q (Reps.set r i t)
theorem Reps.reverse{ds:List D}{vs:List V}(h:Reps K H ds vs):Reps K H ds.reverse vs.reverse:=by
 induction ds generalizing vs with
 |nil=>cases h;exact .nil
 |cons d ds ih=>
  cases h with
  |cons r t=>rw[List.reverse_cons,List.reverse_cons];exact(ih t).append (.cons r .nil)
theorem Reps.rep{ds:List D}{vs:List V}(h:Reps K H ds vs):∀k:Nat,Reps K H (List.replicate k ds).flatten (List.replicate k vs).flatten
 |0=>.nil
 |k+1=>by
  rw[List.replicate_succ,List.replicate_succ,List.flatten_cons,List.flatten_cons];exact h.append (h.rep k)
theorem Reps.ints:∀{ns:List Int},Reps K H (ns.map PyData.int) (ns.map V.int)
 |[]=>.nil
 |_::_=>.cons .int Reps.ints
theorem Reps.of_ints{ns:List Int}{vs:List V}(h:Reps K H (ns.map PyData.int) vs):vs=ns.map V.int:=by
 induction ns generalizing vs with
 |nil=>cases h;rfl
 |cons n ns ih=>
  cases h with
  |cons r t=>cases r;rw[ih t];rfl
theorem Reps.same(s:Same H H'){ds:List D}{vs:List V}(r:Reps K H ds vs):Reps K H' ds vs:=r.mono s.pers
theorem Rep.same(s:Same H H'){d:D}{v:V}(r:Rep K H d v):Rep K H' d v:=r.mono s.pers
end
section
variable (K:PySem.W.Frag)
mutual
inductive RepN(H:Hp):D->V->Prop
 |non:RepN H .none .non
 |bl {b:Bool}:RepN H (.bool b) (.bl b)
 |int {i:Int}:RepN H (.int i) (.int i)
 |str {x:Str}:RepN H (.str x) (.str x)
 |tup {xs:List D}{a:Addr}{vs:List V} (h:SqT K H a vs) (r:RepNs H xs vs):RepN H (.tuple xs) (.ref a)
 |lst {xs:List D}{a:Addr}{vs:List V} (h:Rd H a (.lst vs)) (r:RepNs H xs vs):RepN H (.list xs) (.ref a)
inductive RepNs(H:Hp):List D->List V->Prop
 |nil:RepNs H [] []
 |cons {d:D}{v:V}{ds:List D}{vs:List V} (r:RepN H d v) (t:RepNs H ds vs):RepNs H (d::ds) (v::vs)
end
end
section
variable {K:PySem.W.Frag}{H H':Hp}
theorem Same.rd(s:Same H H'){a:Addr}{u:HO}(h:Rd H a u):Rd H' a u:=by
 rcases h with h |⟨o,h⟩
 ·exact .inl (s _ _ h)
 ·exact .inr ⟨o,s _ _ h⟩
mutual
theorem RepN.gen(ht:∀{a vs},SqT K H a vs->SqT K H' a vs)(hl:∀{a vs},Rd H a (.lst vs)->Rd H' a (.lst vs)):∀{d:D}{v:V},RepN K H d v->RepN K H' d v
 |_,_,.non=>.non
 |_,_,.bl=>.bl
 |_,_,.int=>.int
 |_,_,.str=>.str
 |_,_,.tup h r=>.tup (ht h) (RepNs.gen ht hl r)
 |_,_,.lst h r=>.lst (hl h) (RepNs.gen ht hl r)
theorem RepNs.gen(ht:∀{a vs},SqT K H a vs->SqT K H' a vs)(hl:∀{a vs},Rd H a (.lst vs)->Rd H' a (.lst vs)):∀{ds:List D}{vs:List V},RepNs K H ds vs->RepNs K H' ds vs
 |_,_,.nil=>.nil
 |_,_,.cons r t=>.cons (RepN.gen ht hl r) (RepNs.gen ht hl t)
end
theorem RepN.same(s:Same H H'){d:D}{v:V}(h:RepN K H d v):RepN K H' d v:=h.gen (λh=>s.pers.sqT h) (λh=>s.rd h)
mutual
theorem Rep.now:∀{d:D}{v:V},Rep K H d v->(∀kvs,d ≠ .dict kvs)->d.canLay0=true->RepN K H d v
 |_,_,.non,_,_=>.non
 |_,_,.bl,_,_=>.bl
 |_,_,.int,_,_=>.int
 |_,_,.str,_,_=>.str
 |_,_,.tup h r,_,c=>.tup h (Reps.now r (by simpa[PyData.canLay0]using c))
 |_,_,.lst h r,_,c=>.lst (.inr ⟨_,h⟩) (Reps.now r (by simpa[PyData.canLay0]using c))
 |_,_,.dic _ _,n,_=>absurd rfl (n _)
theorem Reps.now:∀{ds:List D}{vs:List V},Reps K H ds vs->PyData.canLayAll0 ds=true->RepNs K H ds vs
 |_,_,.nil,_=>.nil
 |_,_,.cons r t,c=>by
  simp only[PyData.canLayAll0,Bool.and_eq_true]at c;exact .cons (Rep.now r (λkvs e=>by subst e;simp[PyData.canLay0]at c) c.1) (Reps.now t c.2)
end
end
inductive Mx where
 |v (d:D)|l (xs:List D)
inductive O where
 |lst (xs:List D)
 |dct (kvs:List (Key×D))
 |nst (xss:List (List D)) (ds:List D)
 |anc (a:Addr) (o:O)
 |ins (c:Str) (fs:List (Str×D))
 |mix (ms:List Mx)
inductive W where
 |val (d:D)|vw (xs:List D)|vd (xs:List (Key×D))|exc (x:Str×List (Str×Int))|scr (ns:List Int)|pen|tmp (d:D)|own (o:O)
abbrev DSt:=List (Option W)
def zqk:Option W->Option W
 |some (.tmp _)=>none
 |w=>w
def clr(σ:DSt):DSt:=σ.map zqk
section
variable (K:PySem.W.Frag)
def RepL(H:Hp)(xs:List D)(v:V):Prop:=∃a vs,v=.ref a/\Rd H a (.lst vs)/\Reps K H xs vs
def RepT(H:Hp)(d:D)(v:V):Prop:=Rep K H d v\/∃xs,d=.list xs/\RepL K H xs v
def RepKV(K:PySem.W.Frag)(H:Hp)(ks:List (Key×D))(vs:List (Key×V)):Prop:=ks.map (·.1)=vs.map (·.1)/\Reps K H (ks.map (·.2)) (vs.map (·.2))
def Nst(H:Hp):List (List D)->List Addr->Prop
 |[],[]=>True
 |xs::xss,b::bs=>(∃vs,H b=some (.lst vs)/\Reps K H xs vs)/\Nst H xss bs
 |_,_=>False
def MxR(H:Hp):List Mx->List V->List Addr->Prop
 |[],[],[]=>True
 |.v d::ms,u::us,bs=>Rep K H d u/\MxR H ms us bs
 |.l xs::ms,u::us,b::bs=>u=.ref b/\(∃vs,H b=some (.lst vs)/\Reps K H xs vs)/\MxR H ms us bs
 |_,_,_=>False
def RepO(H:Hp):O->V->List Addr->Prop
 |.mix ms,v,fp=>∃a us bs,v=.ref a/\fp=a::bs/\H a=some (.lst us)/\MxR K H ms us bs
 |.lst xs,v,fp=>∃a vs,v=.ref a/\fp = [a]/\H a=some (.lst vs)/\Reps K H xs vs
 |.dct ks,v,fp=>∃a vs,v=.ref a/\fp = [a]/\H a=some (.dK vs)/\RepKV K H ks vs
 |.nst xss ds,v,fp=>∃a as us,v=.ref a/\fp=a::as/\H a=some (.lst (as.map V.ref++us))/\Nst K H xss as/\Reps K H ds us
 |.anc a o,v,fp=>v=.ref a/\RepO H o v fp
 |.ins c fs,v,fp=>∃a dx C fv,v=.ref a/\fp = [a,dx]/\PySem.W.nsIn K mainGlobals c=some (some (.ref C))/\H a=some (.ins C dx fv)/\H dx=some (.own a)/\fv.map (·.1)=fs.map (·.1)/\Reps K H (fs.map (·.2)) (fv.map (·.2))
def RepD(H:Hp)(xs:List (Key×D))(v:V):Prop:=∃a vs,v=.ref a/\H a=some (.dK vs)/\RepKV K H xs vs
def za4(C:Addr)(od:Option Addr)(a:Addr):HO:=.ext λh=>∃oe,h.get? a=some oe/\oe.cls=.ref C/\oe.dict=od/\∃vs,oe.data=.fields vs
def RepX(H:Hp)(x:Str×List (Str×Int))(v:V):Prop:=∃a C od,v=.ref a/\PySem.W.nsIn K mainGlobals x.1=some (some (.ref C))/\H a=some (za4 C od a)/\((x.2 = []/\od=none)\/∃d,od=some d/\H d=some (.xd (x.2.map λp=>(p.1,V.int p.2))))
inductive Slots(H₀ H:Hp):DSt->St->List Addr->Prop
 |nil:Slots H₀ H [] [] []
 |none {v:Option V}{ws:DSt}{vs:St}{fp:List Addr} (t:Slots H₀ H ws vs fp):Slots H₀ H (Option.none::ws) (v::vs) fp
 |val {d:D}{v:V}{ws:DSt}{vs:St}{fp:List Addr} (r:Rep K H d v) (t:Slots H₀ H ws vs fp):Slots H₀ H (some (.val d)::ws) (some v::vs) fp
 |vw {xs:List D}{v:V}{ws:DSt}{vs:St}{fp:List Addr} (r:RepL K H₀ xs v) (t:Slots H₀ H ws vs fp):Slots H₀ H (some (.vw xs)::ws) (some v::vs) fp
 |vd {xs:List (Key×D)}{v:V}{ws:DSt}{vs:St}{fp:List Addr} (r:RepD K H₀ xs v) (t:Slots H₀ H ws vs fp):Slots H₀ H (some (.vd xs)::ws) (some v::vs) fp
 |exc {xs:Str×List (Str×Int)}{v:V}{ws:DSt}{vs:St}{fp:List Addr} (r:RepX K H₀ xs v) (t:Slots H₀ H ws vs fp):Slots H₀ H (some (.exc xs)::ws) (some v::vs) fp
 |scr {ns:List Int}{a:Addr}{ws:DSt}{vs:St}{fp:List Addr} (r:SqL K H₀ a (ns.map V.int)) (t:Slots H₀ H ws vs fp):Slots H₀ H (some (.scr ns)::ws) (some (.ref a)::vs) fp
 |pen {a:Addr}{ws:DSt}{vs:St}{fp:List Addr} (r:H a=some (za3 a)) (t:Slots H₀ H ws vs fp):Slots H₀ H (some .pen::ws) (some (.ref a)::vs) fp
 |tmp {d:D}{v:V}{ws:DSt}{vs:St}{fp:List Addr} (r:RepN K H d v) (t:Slots H₀ H ws vs fp):Slots H₀ H (some (.tmp d)::ws) (some v::vs) fp
 |own {o:O}{v:V}{f:List Addr}{ws:DSt}{vs:St}{fp:List Addr} (r:RepO K H o v f) (t:Slots H₀ H ws vs fp):Slots H₀ H (some (.own o)::ws) (some v::vs) (f++fp)
structure DOk(H₀ H:Hp)(σD:DSt)(σ:St):Prop where
 same:Same H₀ H
 slots:∃fp,Slots K H₀ H σD σ fp/\fp.Nodup/\∀a∈fp,H₀ a=none
end
section
variable {K:PySem.W.Frag}{H₀ H H':Hp}{σD:DSt}{σ:St}
theorem RepX.same(s:Same H H'){xs:Str×List (Str×Int)}{v:V}:RepX K H xs v->RepX K H' xs v:=by
 rintro ⟨a,C,od,rfl,n,h,r⟩;refine⟨a,C,od,rfl,n,s _ _ h,?_⟩;rcases r with r |⟨d,e,r⟩
 ·exact .inl r
 ·exact .inr ⟨d,e,s _ _ r⟩
theorem RepD.same(s:Same H H'){xs:List (Key×D)}{v:V}:RepD K H xs v->RepD K H' xs v:=by
 rintro ⟨a,vs,rfl,h,r⟩;exact⟨a,vs,rfl,s _ _ h,r.1,r.2.same s⟩
theorem RepL.same(s:Same H H'){xs:List D}{v:V}:RepL K H xs v->RepL K H' xs v:=by
 rintro ⟨a,vs,rfl,h,r⟩;refine⟨a,vs,rfl,?_,r.same s⟩;rcases h with h |⟨o,h⟩
 ·exact .inl (s _ _ h)
 ·exact .inr ⟨o,s _ _ h⟩
theorem RepT.same(s:Same H H'){d:D}{v:V}:RepT K H d v->RepT K H' d v
 |.inl h=>.inl (h.same s)
 |.inr ⟨xs,e,h⟩=>.inr ⟨xs,e,h.same s⟩
theorem Rep.top{d:D}{v:V}(h:Rep K H d v):RepT K H d v:=.inl h
theorem RepT.list{xs:List D}{v:V}(h:RepT K H (.list xs) v):RepL K H xs v:=by
 rcases h with h |⟨ys,e,h⟩
 ·cases h with
  |lst h r=>exact⟨_,_,rfl,.inr ⟨_,h⟩,r⟩
 ·cases e;exact h
theorem RepL.sq{xs:List D}{v:V}(h:RepL K H xs v):∃a vs,v=.ref a/\SqL K H a vs/\Reps K H xs vs:=by
 obtain⟨a,vs,rfl,h,r⟩:=h;exact⟨a,vs,rfl,.inl h,r⟩
theorem Nst.len:∀{xss:List (List D)}{as:List Addr},Nst K H xss as->as.length=xss.length
 |[],[],_=>rfl
 |_::_,_::_,h=>by rw[List.length_cons,List.length_cons,Nst.len h.2]
theorem Nst.live:∀{xss:List (List D)}{as:List Addr},Nst K H xss as->∀b∈as,∃vs,H b=some (.lst vs)
 |[],[],_,b,hb=>by cases hb
 |_::_,_::_,h,b,hb=>by
  rcases List.mem_cons.mp hb with rfl|hb
  ·obtain⟨vs,e,_⟩:=h.1;exact⟨vs,e⟩
  ·exact Nst.live h.2 b hb
theorem Nst.keep(p:Pers H H'):∀{xss:List (List D)}{as:List Addr},(∀a∈as,∀u,H a=some u->H' a=some u)->Nst K H xss as->Nst K H' xss as
 |[],[],_,_=>trivial
 |_::_,b::_,k,h=>by
  obtain⟨⟨vs,e,r⟩,t⟩:=h;exact⟨⟨vs,k b List.mem_cons_self _ e,r.mono p⟩,Nst.keep p (λa ha=>k a (List.mem_cons_of_mem _ ha)) t⟩
theorem MxR.live:∀{ms:List Mx}{us:List V}{bs:List Addr},MxR K H ms us bs->∀b∈bs,∃vs,H b=some (.lst vs)
 |[],[],[],_,b,hb=>by cases hb
 |.v _::_,_::_,_,h,b,hb=>MxR.live h.2 b hb
 |.l _::_,_::_,c::_,h,b,hb=>by
  rcases List.mem_cons.mp hb with rfl|hb
  ·obtain⟨vs,e,_⟩:=h.2.1;exact⟨vs,e⟩
  ·exact MxR.live h.2.2 b hb
theorem MxR.keep(p:Pers H H'):∀{ms:List Mx}{us:List V}{bs:List Addr},(∀a∈bs,∀u,H a=some u->H' a=some u)->MxR K H ms us bs->MxR K H' ms us bs
 |[],[],[],_,_=>trivial
 |.v _::_,_::_,_,k,h=>⟨h.1.mono p,MxR.keep p k h.2⟩
 |.l _::_,_::_,b::_,k,h=>by
  obtain⟨e0,⟨vs,e,r⟩,t⟩:=h;exact⟨e0,⟨vs,k b List.mem_cons_self _ e,r.mono p⟩,MxR.keep p (λa ha=>k a (List.mem_cons_of_mem _ ha)) t⟩
theorem MxR.len:∀{ms:List Mx}{us:List V}{bs:List Addr},MxR K H ms us bs->ms.length=us.length
 |[],[],[],_=>rfl
 |.v _::_,_::_,_,h=>by rw[List.length_cons,List.length_cons,MxR.len h.2]
 |.l _::_,_::_,_::_,h=>by rw[List.length_cons,List.length_cons,MxR.len h.2.2]
theorem RepO.live{o:O}{v:V}{f:List Addr}(h:RepO K H o v f):∀a∈f,∃u,H a=some u/\u.per=false:=by
 induction o with
 |anc a o ih=>exact ih h.2
 |mix ms=>
  obtain⟨a,us,bs,rfl,rfl,e,m⟩:=h;intro b hb;rcases List.mem_cons.mp hb with rfl|hb
  ·exact⟨_,e,rfl⟩
  ·obtain⟨vs,e2⟩:=m.live b hb;exact⟨_,e2,rfl⟩
 |ins c fs=>
  obtain⟨a,dx,C,fv,rfl,rfl,_,e1,e2,_⟩:=h;intro b hb;simp only[List.mem_cons,List.not_mem_nil,or_false]at hb;rcases hb with rfl|rfl
  ·exact⟨_,e1,rfl⟩
  ·exact⟨_,e2,rfl⟩
 |lst xs=>
  obtain⟨a,vs,rfl,rfl,e,r⟩:=h;intro b hb;rw[List.mem_singleton.mp hb];exact⟨_,e,rfl⟩
 |dct ks=>
  obtain⟨a,vs,rfl,rfl,e,r⟩:=h;intro b hb;rw[List.mem_singleton.mp hb];exact⟨_,e,rfl⟩
 |nst xss ds=>
  obtain⟨a,as,us,rfl,rfl,e,n,r⟩:=h;intro b hb;rcases List.mem_cons.mp hb with rfl|hb
  ·exact⟨_,e,rfl⟩
  ·obtain⟨vs,e2⟩:=n.live b hb;exact⟨_,e2,rfl⟩
theorem RepO.keep{o:O}{v:V}{f:List Addr}(p:Pers H H')(k:∀a∈f,∀u,H a=some u->H' a=some u)(h:RepO K H o v f):RepO K H' o v f:=by
 induction o with
 |anc a o ih=>exact⟨h.1,ih h.2⟩
 |mix ms=>
  obtain⟨a,us,bs,rfl,rfl,e,m⟩:=h;exact⟨a,us,bs,rfl,rfl,k a List.mem_cons_self _ e,m.keep p λb hb=>k b (List.mem_cons_of_mem _ hb)⟩
 |ins c fs=>
  obtain⟨a,dx,C,fv,rfl,rfl,n,e1,e2,e3,r⟩:=h;exact⟨a,dx,C,fv,rfl,rfl,n,k a (by simp) _ e1,k dx (by simp) _ e2,e3,r.mono p⟩
 |lst xs=>
  obtain⟨a,vs,rfl,rfl,e,r⟩:=h;exact⟨a,vs,rfl,rfl,k a (by simp) _ e,r.mono p⟩
 |dct ks=>
  obtain⟨a,vs,rfl,rfl,e,r⟩:=h;exact⟨a,vs,rfl,rfl,k a (by simp) _ e,r.1,r.2.mono p⟩
 |nst xss ds=>
  obtain⟨a,as,us,rfl,rfl,e,n,r⟩:=h;exact⟨a,as,us,rfl,rfl,k a List.mem_cons_self _ e,n.keep p λb hb=>k b (List.mem_cons_of_mem _ hb),r.mono p⟩
theorem Slots.live{fp:List Addr}(h:Slots K H₀ H σD σ fp):∀a∈fp,∃u,H a=some u/\u.per=false:=by
 induction h with
 |nil=>intro a ha;cases ha
 |none _ ih=>exact ih
 |val _ _ ih=>exact ih
 |vw _ _ ih=>exact ih
 |vd _ _ ih=>exact ih
 |exc _ _ ih=>exact ih
 |scr _ _ ih=>exact ih
 |pen _ _ ih=>exact ih
 |tmp _ _ ih=>exact ih
 |own r _ ih=>
  intro a ha;rcases List.mem_append.mp ha with z|z
  ·exact r.live a z
  ·exact ih a z
theorem Slots.keep{fp:List Addr}(p:Pers H H')(kn:∀{d:D}{v:V},RepN K H d v->RepN K H' d v)(k:∀a∈fp,∀u,H a=some u->H' a=some u)(h:Slots K H₀ H σD σ fp):Slots K H₀ H' σD σ fp:=by
 induction h with
 |nil=>exact .nil
 |none _ ih=>exact .none (ih k)
 |val r _ ih=>exact .val (r.mono p) (ih k)
 |vw r _ ih=>exact .vw r (ih k)
 |vd r _ ih=>exact .vd r (ih k)
 |exc r _ ih=>exact .exc r (ih k)
 |scr r _ ih=>exact .scr r (ih k)
 |pen r _ ih=>exact .pen (p _ _ r rfl) (ih k)
 |tmp r _ ih=>exact .tmp (kn r) (ih k)
 |own r _ ih=>exact .own (r.keep p λa ha=>k a (List.mem_append_left _ ha)) (ih λa ha=>k a (List.mem_append_right _ ha))
theorem Slots.keepC{fp:List Addr}(p:Pers H H')(k:∀a∈fp,∀u,H a=some u->H' a=some u)(h:Slots K H₀ H σD σ fp):Slots K H₀ H' (clr σD) σ fp:=by
 induction h with
 |nil=>exact .nil
 |none _ ih=>exact .none (ih k)
 |val r _ ih=>exact .val (r.mono p) (ih k)
 |vw r _ ih=>exact .vw r (ih k)
 |vd r _ ih=>exact .vd r (ih k)
 |exc r _ ih=>exact .exc r (ih k)
 |scr r _ ih=>exact .scr r (ih k)
 |pen r _ ih=>exact .pen (p _ _ r rfl) (ih k)
 |tmp r _ ih=>exact .none (ih k)
 |own r _ ih=>exact .own (r.keep p λa ha=>k a (List.mem_append_left _ ha)) (ih λa ha=>k a (List.mem_append_right _ ha))
theorem Slots.length{fp:List Addr}(h:Slots K H₀ H σD σ fp):σD.length=σ.length:=by
 induction h with
 |nil=>rfl
 |none _ ih=>simp[ih]
 |val _ _ ih=>simp[ih]
 |vw _ _ ih=>simp[ih]
 |vd _ _ ih=>simp[ih]
 |exc _ _ ih=>simp[ih]
 |scr _ _ ih=>simp[ih]
 |pen _ _ ih=>simp[ih]
 |tmp _ _ ih=>simp[ih]
 |own _ _ ih=>simp[ih]
theorem DOk.after(s:Same H H')(h:DOk K H₀ H σD σ):DOk K H₀ H' σD σ:=by
 obtain⟨s0,fp,sl,nd,fr⟩:=h;exact⟨s0.trans s,fp,sl.keep s.pers (λh=>h.same s) λa _ u e=>s a u e,nd,fr⟩
theorem DOk.len(h:DOk K H₀ H σD σ):σD.length=σ.length:=let ⟨_,_,sl,_⟩:=h;sl.length
theorem Slots.get{fp:List Addr}(h:Slots K H₀ H σD σ fp):∀{i:Nat}{w:W},σD[i]?=some (some w)->∃v,σ[i]?=some (some v)/\match w with
  |.val d=>Rep K H d v
  |.vw xs=>RepL K H₀ xs v
  |.vd xs=>RepD K H₀ xs v
  |.exc xs=>RepX K H₀ xs v
  |.scr ns=>∃a,v=.ref a/\SqL K H₀ a (ns.map V.int)
  |.pen=>∃a,v=.ref a/\H a=some (za3 a)
  |.tmp d=>RepN K H d v
  |.own o=>∃f,RepO K H o v f/\∀a∈f,a∈fp:=by
 induction h with
 |nil=>intro i w e;simp at e
 |none _ ih=>
  intro i w e
  cases i with
  |zero=>simp at e
  |succ i=>exact ih (by simpa using e)
 |val r _ ih=>
  intro i w e
  cases i with
  |zero=>simp at e;subst e;exact⟨_,rfl,r⟩
  |succ i=>exact ih (by simpa using e)
 |vw r _ ih=>
  intro i w e
  cases i with
  |zero=>simp at e;subst e;exact⟨_,rfl,r⟩
  |succ i=>exact ih (by simpa using e)
 |vd r _ ih=>
  intro i w e
  cases i with
  |zero=>simp at e;subst e;exact⟨_,rfl,r⟩
  |succ i=>exact ih (by simpa using e)
 |exc r _ ih=>
  intro i w e
  cases i with
  |zero=>simp at e;subst e;exact⟨_,rfl,r⟩
  |succ i=>exact ih (by simpa using e)
 |scr r _ ih=>
  intro i w e
  cases i with
  |zero=>simp at e;subst e;exact⟨_,rfl,_,rfl,r⟩
  |succ i=>exact ih (by simpa using e)
 |pen r _ ih=>
  intro i w e
  cases i with
  |zero=>simp at e;subst e;exact⟨_,rfl,_,rfl,r⟩
  |succ i=>exact ih (by simpa using e)
 |tmp r _ ih=>
  intro i w e
  cases i with
  |zero=>simp at e;subst e;exact⟨_,rfl,r⟩
  |succ i=>exact ih (by simpa using e)
 |own r _ ih=>
  intro i w e
  cases i with
  |zero=>simp at e;subst e;exact⟨_,rfl,_,r,λa ha=>List.mem_append_left _ ha⟩
  |succ i=>
   obtain⟨v,e1,e2⟩:=ih (by simpa using e);refine⟨v,e1,?_⟩
   cases w with
   |val d=>exact e2
   |vw xs=>exact e2
   |vd xs=>exact e2
   |exc xs=>exact e2
   |scr ns=>exact e2
   |pen=>exact e2
   |tmp d=>exact e2
   |own o=>obtain⟨f,r,m⟩:=e2;exact⟨f,r,λa ha=>List.mem_append_right _ (m a ha)⟩
theorem DOk.val(h:DOk K H₀ H σD σ){i:Nat}{d:D}(e:σD[i]?=some (some (.val d))):∃v,σ[i]?=some (some v)/\Rep K H d v:=let ⟨_,_,sl,_⟩:=h;sl.get e
theorem DOk.vw(h:DOk K H₀ H σD σ){i:Nat}{xs:List D}(e:σD[i]?=some (some (.vw xs))):∃v,σ[i]?=some (some v)/\RepL K H xs v:=by
 obtain⟨s,_,sl,_⟩:=h;obtain⟨v,e1,e2⟩:=sl.get e;exact⟨v,e1,RepL.same s e2⟩
theorem DOk.vd(h:DOk K H₀ H σD σ){i:Nat}{xs:List (Key×D)}(e:σD[i]?=some (some (.vd xs))):∃v,σ[i]?=some (some v)/\RepD K H xs v:=by
 obtain⟨s,_,sl,_⟩:=h;obtain⟨v,e1,e2⟩:=sl.get e;exact⟨v,e1,RepD.same s e2⟩
theorem DOk.exc(h:DOk K H₀ H σD σ){i:Nat}{xs:Str×List (Str×Int)}(e:σD[i]?=some (some (.exc xs))):∃v,σ[i]?=some (some v)/\RepX K H xs v:=by
 obtain⟨s,_,sl,_⟩:=h;obtain⟨v,e1,e2⟩:=sl.get e;exact⟨v,e1,RepX.same s e2⟩
theorem DOk.scr(h:DOk K H₀ H σD σ){i:Nat}{ns:List Int}(e:σD[i]?=some (some (.scr ns))):∃a,σ[i]?=some (some (.ref a))/\SqL K H a (ns.map V.int):=by
 obtain⟨s,_,sl,_⟩:=h;obtain⟨v,e1,a,rfl,e2⟩:=sl.get e;exact⟨a,e1,s.seq e2⟩
theorem DOk.pen(h:DOk K H₀ H σD σ){i:Nat}(e:σD[i]?=some (some .pen)):∃a,σ[i]?=some (some (.ref a))/\H a=some (za3 a):=by
 obtain⟨s,_,sl,_⟩:=h;obtain⟨v,e1,a,rfl,e2⟩:=sl.get e;exact⟨a,e1,e2⟩
theorem DOk.ownL(h:DOk K H₀ H σD σ){i:Nat}{xs:List D}(e:σD[i]?=some (some (.own (.lst xs)))):∃a vs,σ[i]?=some (some (.ref a))/\H a=some (.lst vs)/\Reps K H xs vs/\H₀ a=none:=by
 obtain⟨s,fp,sl,nd,fr⟩:=h;obtain⟨v,e1,f,⟨a,vs,rfl,rfl,e2,r⟩,m⟩:=sl.get e;exact⟨a,vs,e1,e2,r,fr a (m a (by simp))⟩
theorem DOk.ownD(h:DOk K H₀ H σD σ){i:Nat}{xs:List (Key×D)}(e:σD[i]?=some (some (.own (.dct xs)))):∃a vs,σ[i]?=some (some (.ref a))/\H a=some (.dK vs)/\RepKV K H xs vs/\H₀ a=none:=by
 obtain⟨s,fp,sl,nd,fr⟩:=h;obtain⟨v,e1,f,⟨a,vs,rfl,rfl,e2,r⟩,m⟩:=sl.get e;exact⟨a,vs,e1,e2,r,fr a (m a (by simp))⟩
theorem Slots.set{fp f:List Addr}(h:Slots K H₀ H σD σ fp){w:Option W}{v:Option V}(hw:∀{ws:DSt}{vs:St}{g:List Addr},Slots K H₀ H ws vs g->Slots K H₀ H (w::ws) (v::vs) (f++g)):
  ∀(i:Nat),i<σD.length->∃g g',Slots K H₀ H (σD.set i w) (σ.set i v) (g++(f++g'))/\(g++g').Sublist fp:=by
 induction h with
 |nil=>intro i hi;exact absurd hi (Nat.not_lt_zero _)
 |none t ih=>
  intro i hi
  cases i with
  |zero=>exact⟨[],_,hw t,List.Sublist.refl _⟩
  |succ i=>obtain⟨g,g',e,s⟩:=ih i (Nat.lt_of_succ_lt_succ hi);exact⟨g,g',.none e,s⟩
 |val r t ih=>
  intro i hi
  cases i with
  |zero=>exact⟨[],_,hw t,List.Sublist.refl _⟩
  |succ i=>obtain⟨g,g',e,s⟩:=ih i (Nat.lt_of_succ_lt_succ hi);exact⟨g,g',.val r e,s⟩
 |vw r t ih=>
  intro i hi
  cases i with
  |zero=>exact⟨[],_,hw t,List.Sublist.refl _⟩
  |succ i=>obtain⟨g,g',e,s⟩:=ih i (Nat.lt_of_succ_lt_succ hi);exact⟨g,g',.vw r e,s⟩
 |vd r t ih=>
  intro i hi
  cases i with
  |zero=>exact⟨[],_,hw t,List.Sublist.refl _⟩
  |succ i=>obtain⟨g,g',e,s⟩:=ih i (Nat.lt_of_succ_lt_succ hi);exact⟨g,g',.vd r e,s⟩
 |exc r t ih=>
  intro i hi
  cases i with
  |zero=>exact⟨[],_,hw t,List.Sublist.refl _⟩
  |succ i=>obtain⟨g,g',e,s⟩:=ih i (Nat.lt_of_succ_lt_succ hi);exact⟨g,g',.exc r e,s⟩
 |scr r t ih=>
  intro i hi
  cases i with
  |zero=>exact⟨[],_,hw t,List.Sublist.refl _⟩
  |succ i=>obtain⟨g,g',e,s⟩:=ih i (Nat.lt_of_succ_lt_succ hi);exact⟨g,g',.scr r e,s⟩
 |pen r t ih=>
  intro i hi
  cases i with
  |zero=>exact⟨[],_,hw t,List.Sublist.refl _⟩
  |succ i=>obtain⟨g,g',e,s⟩:=ih i (Nat.lt_of_succ_lt_succ hi);exact⟨g,g',.pen r e,s⟩
 |tmp r t ih=>
  intro i hi
  cases i with
  |zero=>exact⟨[],_,hw t,List.Sublist.refl _⟩
  |succ i=>obtain⟨g,g',e,s⟩:=ih i (Nat.lt_of_succ_lt_succ hi);exact⟨g,g',.tmp r e,s⟩
 |@own o v' f' ws vs fp' r t ih=>
  intro i hi
  cases i with
  |zero=>exact⟨[],_,hw t,List.sublist_append_right _ _⟩
  |succ i=>
   obtain⟨g,g',e,s⟩:=ih i (Nat.lt_of_succ_lt_succ hi);refine⟨f'++g,g',?_,?_⟩
   ·rw[List.append_assoc];exact .own r e
   ·rw[List.append_assoc];exact(List.Sublist.refl _).append s
theorem DOk.put(h:DOk K H₀ H σD σ){w:Option W}{v:Option V}(hw:∀{ws:DSt}{vs:St}{g:List Addr},Slots K H₀ H ws vs g->Slots K H₀ H (w::ws) (v::vs) g)(i:Nat):DOk K H₀ H (σD.set i w) (σ.set i v):=by
 obtain⟨s,fp,sl,nd,fr⟩:=h
 by_cases hi:i<σD.length
 ·obtain⟨g,g',e,sb⟩:=sl.set (f:=[]) hw i hi;rw[List.nil_append]at e;exact⟨s,_,e,sb.nodup nd,λa ha=>fr a (sb.subset ha)⟩
 ·rw[List.set_eq_of_length_le (by omega),List.set_eq_of_length_le (by rw[<-sl.length];omega)];exact⟨s,fp,sl,nd,fr⟩
theorem DOk.setV(h:DOk K H₀ H σD σ){d:D}{v:V}(r:Rep K H d v)(i:Nat):DOk K H₀ H (σD.set i (some (.val d))) (σ.set i (some v)):=h.put (.val r) i
theorem DOk.setO{H1:Hp}(h:DOk K H₀ H1 σD σ)(s1:Same H1 H){a:Addr}{vs:List V}{xs:List D}(n:H1 a=none)(e:H a=some (.lst vs))(r:Reps K H xs vs)(i:Nat):DOk K H₀ H (σD.set i (some (.own (.lst xs)))) (σ.set i (some (.ref a))):=by
 obtain⟨s,fp,sl,nd,fr⟩:=id h;have lv:∀b∈fp,b≠a:=λb hb z=>by
  obtain⟨u,e1,_⟩:=sl.live b hb;rw[z,n]at e1;cases e1
 obtain⟨s',fp',sl',_⟩:=id (h.after s1);have sl2:Slots K H₀ H σD σ fp:=sl.keep s1.pers (λh=>h.same s1) λb _ u e=>s1 b u e
 by_cases hi:i<σD.length
 ·obtain⟨g,g',e',sb⟩:=sl2.set (f:=[a]) (w:=some (.own (.lst xs))) (v:=some (.ref a)) (λt=>.own ⟨a,vs,rfl,rfl,e,r⟩ t) i hi;refine⟨s',_,e',?_,λb hb=>?_⟩
  ·have nd2:=sb.nodup nd;rw[List.nodup_append]at nd2 ⊢;refine⟨nd2.1,?_,λx hx y hy=>?_⟩
   ·rw[List.singleton_append,List.nodup_cons];exact⟨λz=>lv a (sb.subset (List.mem_append_right _ z)) rfl,nd2.2.1⟩
   ·rcases List.mem_append.mp hy with z|z
    ·rw[List.mem_singleton.mp z];exact lv x (sb.subset (List.mem_append_left _ hx))
    ·exact nd2.2.2 x hx y z
  ·rcases List.mem_append.mp hb with z|z
   ·exact fr b (sb.subset (List.mem_append_left _ z))
   ·rcases List.mem_append.mp z with z|z
    ·rw[List.mem_singleton.mp z]
     cases q:H₀ a with
     |none=>rfl
     |some u=>rw[s a u q]at n;cases n
    ·exact fr b (sb.subset (List.mem_append_right _ z))
 ·rw[List.set_eq_of_length_le (by omega),List.set_eq_of_length_le (by rw[<-sl2.length];omega)];exact⟨s',fp,sl2,nd,fr⟩
theorem Slots.write{fp:List Addr}(h:Slots K H₀ H σD σ fp)(nd:fp.Nodup){i:Nat}{xs ys:List D}{a:Addr}{vs:List V}(e:σD[i]?=some (some (.own (.lst xs))))(ev:σ[i]?=some (some (.ref a)))(ea:∃zs,H a=some (.lst zs))(r:Reps K H ys vs):
  Slots K H₀ (upd H a (.lst vs)) (clr (σD.set i (some (.own (.lst ys))))) σ fp:=by
 have ps:Pers H (upd H a (.lst vs)):=λb o hb hp=>by
  obtain⟨zs,ea⟩:=ea;rw[zh (λz=>by rw[z,ea]at hb;cases hb;cases hp)];exact hb
 induction h generalizing i with
 |nil=>simp at e
 |none t ih=>
  cases i with
  |zero=>simp at e
  |succ i=>exact .none (ih nd (by simpa using e) (by simpa using ev))
 |val q t ih=>
  cases i with
  |zero=>simp at e
  |succ i=>exact .val (q.mono ps) (ih nd (by simpa using e) (by simpa using ev))
 |vw q t ih=>
  cases i with
  |zero=>simp at e
  |succ i=>exact .vw q (ih nd (by simpa using e) (by simpa using ev))
 |vd q t ih=>
  cases i with
  |zero=>simp at e
  |succ i=>exact .vd q (ih nd (by simpa using e) (by simpa using ev))
 |exc q t ih=>
  cases i with
  |zero=>simp at e
  |succ i=>exact .exc q (ih nd (by simpa using e) (by simpa using ev))
 |scr q t ih=>
  cases i with
  |zero=>simp at e
  |succ i=>exact .scr q (ih nd (by simpa using e) (by simpa using ev))
 |pen q t ih=>
  cases i with
  |zero=>simp at e
  |succ i=>exact .pen (ps _ _ q rfl) (ih nd (by simpa using e) (by simpa using ev))
 |tmp q t ih=>
  cases i with
  |zero=>simp at e
  |succ i=>exact .none (ih nd (by simpa using e) (by simpa using ev))
 |@own o v f ws wvs fp' q t ih=>
  rw[List.nodup_append]at nd
  cases i with
  |zero=>
   simp at e ev;subst e ev;obtain⟨b,zs,eb,rfl,hb,rb⟩:=q
   cases eb;refine .own ⟨a,vs,rfl,rfl,zm,r.mono ps⟩ (t.keepC ps λc hc u hu=>?_);rw[zh (λz=>nd.2.2 a (by simp) c hc z.symm)];exact hu
  |succ i=>
   have e':ws[i]?=some (some (.own (.lst xs))):=by simpa using e
   have ev':wvs[i]?=some (some (.ref a)):=by simpa using ev
   refine .own (q.keep ps λc hc u hu=>?_) (ih nd.2.1 e' ev');obtain⟨v',e1,f',⟨b,zs,rfl,rfl,hb,rb⟩,m⟩:=t.get e';rw[ev']at e1
   cases e1;rw[zh (λz=>nd.2.2 c hc a (m a (by simp)) z)];exact hu
theorem vn{a:Addr}{o o':HO}(e:H a=some o)(p:o.per=false):Pers H (upd H a o'):=λb u hb hp=>by
 rw[zh (λz=>by rw[z,e]at hb;cases hb;rw[p]at hp;cases hp)];exact hb
theorem DOk.write(h:DOk K H₀ H σD σ){i:Nat}{xs ys:List D}{a:Addr}{vs zs:List V}(e:σD[i]?=some (some (.own (.lst xs))))(ev:σ[i]?=some (some (.ref a)))(ea:H a=some (.lst zs))(r:Reps K H ys vs):DOk K H₀ (upd H a (.lst vs)) (clr (σD.set i (some (.own (.lst ys))))) σ:=by
 obtain⟨a',_,e1,_,_,n⟩:=h.ownL e;rw[ev]at e1
 cases e1;obtain⟨s,fp,sl,nd,fr⟩:=h;refine⟨λb o hb=>?_,fp,sl.write nd e ev ⟨_,ea⟩ r,nd,fr⟩;rw[zh (λz=>by rw[z,n]at hb;cases hb)];exact s b o hb
end
section
variable {X:Cx}{pins:List (Addr×Obj)}{σ:St}{H:Hp}{s:Shared}{a:Addr}
theorem Inv.frz(I:Inv X pins σ H s){vs:List V}(h:H a=some (.lst vs)):∃o,Inv X pins σ (upd H a (.frz o (.lst vs))) s:=by
 obtain⟨z,its,n,r,e⟩:=I.hok a _ h;exact⟨_,I.write (h':=s.heap) (t':=s.toks) (x:=a) (e:=a) (by rw[h];exact trivial) (.inl rfl) (λb u _ q=>q) ⟨_,e⟩ ⟨e,z,its,n,r,e⟩⟩
theorem zh8{P:Program}{w:World}{h:Heap}{x y z:Int}{tx ty tz:Tok}{n:Nat}(e:h.get? a=some { cls:=.type "list",data:=.seq #[.int x tx,.int y ty,.int z tz] n }):ObjOk P w H h a (za3 a) :=
 ⟨⟨x,y,z,tx,ty,tz,n,e⟩,⟨_,e⟩,λh1 h2 ⟨x,y,z,tx,ty,tz,n,e⟩ k=>⟨x,y,z,tx,ty,tz,n,k _ e⟩⟩
theorem Inv.toPen(I:Inv X pins σ H s){x y z:Int}(h:H a=some (.lst [.int x,.int y,.int z])):Inv X pins σ (upd H a (za3 a)) s:=by
 obtain⟨zz,its,n,r,e⟩:=I.hok a _ h
 cases r with
 |cons r1 r=>
  cases r with
  |cons r2 r=>
   cases r with
   |cons r3 r=>
    cases r;obtain⟨t1,rfl⟩:=r1;obtain⟨t2,rfl⟩:=r2;obtain⟨t3,rfl⟩:=r3;exact I.write (h':=s.heap) (t':=s.toks) (x:=a) (e:=a) (by rw[h];exact trivial) (.inl rfl) (λb u _ q=>q) ⟨_,e⟩ (zh8 e)
end
abbrev DTE:=DSt->(D->Prop)->Prop
abbrev DTF:=DSt->(List D->Prop)->Prop
abbrev DTT:=DSt->(Bool->Prop)->Prop
abbrev DTP:=DSt->(List W->Prop)->Prop
def DEnd(X:Cx)(pins:List (Addr×Obj))(σ:St)(H:Hp)(Q:D->Prop)(u:Value)(s':Shared):Prop:=∃v H' d,Inv X pins σ H' s'/\RelV v u/\Same H H'/\Rep X.K H' d v/\Q d
def zo9(X:Cx)(pins:List (Addr×Obj))(σ:St)(H:Hp)(Q:D->Prop)(u:Value)(s':Shared):Prop:=∃v H' d,Inv X pins σ H' s'/\RelV v u/\Same H H'/\RepT X.K H' d v/\Q d
def zdh(X:Cx)(pins:List (Addr×Obj))(σ:St)(H:Hp)(Q:List D->Prop)(u:Value)(s':Shared):Prop:=∃a H' vs xs,u=.ref a/\Inv X pins σ H' s'/\Same H H'/\H a=none/\H' a=some (.lst vs)/\Reps X.K H' xs vs/\Q xs
structure DE(X:Cx)(e:Expr)(t:DTE):Prop where
 run:∀(pins:List (Addr×Obj)) (s:Shared) (σ:St) (H H₀:Hp) (σD:DSt) (Q:D->Prop),Inv X pins σ H s->DOk X.K H₀ H σD σ->t σD Q->wpAny (model X.prog X.w) X.A (eval e X.env) (DEnd X pins σ H Q) X.xe s
structure DV(X:Cx)(e:Expr)(t:DTE):Prop where
 run:∀(pins:List (Addr×Obj)) (s:Shared) (σ:St) (H H₀:Hp) (σD:DSt) (Q:D->Prop),Inv X pins σ H s->DOk X.K H₀ H σD σ->t σD Q->wpAny (model X.prog X.w) X.A (eval e X.env) (zo9 X pins σ H Q) X.xe s
structure DF(X:Cx)(e:Expr)(t:DTF):Prop where
 run:∀(pins:List (Addr×Obj)) (s:Shared) (σ:St) (H H₀:Hp) (σD:DSt) (Q:List D->Prop),Inv X pins σ H s->DOk X.K H₀ H σD σ->t σD Q->wpAny (model X.prog X.w) X.A (eval e X.env) (zdh X pins σ H Q) X.xe s
def zpa(X:Cx)(pins:List (Addr×Obj))(σ:St)(H:Hp)(Q:Bool->Prop)(b:Bool)(s':Shared):Prop:=∃H',Inv X pins σ H' s'/\Same H H'/\Q b
structure DT(X:Cx)(e:Expr)(t:DTT):Prop where
 run:∀(pins:List (Addr×Obj)) (s:Shared) (σ:St) (H H₀:Hp) (σD:DSt) (Q:Bool->Prop),Inv X pins σ H s->DOk X.K H₀ H σD σ->t σD Q->wpAny (model X.prog X.w) X.A (isTrue e X.env (eval e X.env)) (zpa X pins σ H Q) X.xe s
structure DWt(X:Cx)(e:Expr)(t:DTT):Prop where
 run:∀(whole:Sem Value) (pins:List (Addr×Obj)) (s:Shared) (σ:St) (H H₀:Hp) (σD:DSt) (Q:Bool->Prop),Inv X pins σ H s->DOk X.K H₀ H σD σ->t σD Q->wpAny (model X.prog X.w) X.A (isTrue e X.env whole) (zpa X pins σ H Q) X.xe s
structure DA(X:Cx)(es:List Expr)(t:DTF):Prop where
 run:∀(pos:Pos) (pins:List (Addr×Obj)) (s:Shared) (σ:St) (H H₀:Hp) (σD:DSt) (Q:List D->Prop),Inv X pins σ H s->DOk X.K H₀ H σD σ->t σD Q ->
  wpAny (model X.prog X.w) X.A (spliced (backTo pos (starEach es X.env))) (λus s'=>∃vs H' ds,Inv X pins σ H' s'/\Vals vs us/\Same H H'/\Reps X.K H' ds vs/\Q ds) X.xe s
inductive RepTs(K:PySem.W.Frag)(H:Hp):List D->List V->Prop
 |nil:RepTs K H [] []
 |cons {d:D}{v:V}{ds:List D}{vs:List V} (r:RepT K H d v) (t:RepTs K H ds vs):RepTs K H (d::ds) (v::vs)
structure DAv(X:Cx)(es:List Expr)(t:DTF):Prop where
 run:∀(pos:Pos) (pins:List (Addr×Obj)) (s:Shared) (σ:St) (H H₀:Hp) (σD:DSt) (Q:List D->Prop),Inv X pins σ H s->DOk X.K H₀ H σD σ->t σD Q ->
  wpAny (model X.prog X.w) X.A (spliced (backTo pos (starEach es X.env))) (λus s'=>∃vs H' ds,Inv X pins σ H' s'/\Vals vs us/\Same H H'/\RepTs X.K H' ds vs/\Q ds) X.xe s
section
variable (K:PySem.W.Frag)
def zt0(H:Hp):W->V->Prop
 |.val d,v=>Rep K H d v
 |.vw xs,v=>RepL K H xs v
 |.vd xs,v=>RepD K H xs v
 |.exc xs,v=>RepX K H xs v
 |.scr ns,v=>∃a,v=.ref a/\SqL K H a (ns.map V.int)
 |.pen,v=>∃a,v=.ref a/\H a=some (za3 a)
 |.tmp _,_=>False
 |.own _,_=>False
inductive RepWs(H:Hp):List W->List V->Prop
 |nil:RepWs H [] []
 |cons {w:W}{v:V}{ws:List W}{vs:List V} (r:zt0 K H w v) (t:RepWs H ws vs):RepWs H (w::ws) (v::vs)
end
theorem RepWs.length{K:PySem.W.Frag}{H:Hp}{ws:List W}{vs:List V}(h:RepWs K H ws vs):ws.length=vs.length:=by
 induction h with
 |nil=>rfl
 |cons _ _ ih=>simp[ih]
structure DPs(X:Cx)(es:List Expr)(t:DTP):Prop where
 run:∀(pos:Pos) (pins:List (Addr×Obj)) (s:Shared) (σ:St) (H H₀:Hp) (σD:DSt) (Q:List W->Prop),Inv X pins σ H s->DOk X.K H₀ H σD σ->t σD Q ->
  wpAny (model X.prog X.w) X.A (spliced (backTo pos (starEach es X.env))) (λus s'=>∃vs H' ws,Inv X pins σ H' s'/\Vals vs us/\Same H H'/\RepWs X.K H' ws vs/\Q ws) X.xe s
section
variable (K:PySem.W.Frag)
def cnE(t:DTE):TE:=λσ H Q=>∃H₀ σD QD,DOk K H₀ H σD σ/\t σD QD/\∀v H' d,Same H H'->Rep K H' d v->QD d->Q v H'
def cnV(t:DTE):TE:=λσ H Q=>∃H₀ σD QD,DOk K H₀ H σD σ/\t σD QD/\∀v H' d,Same H H'->RepT K H' d v->QD d->Q v H'
def cnF(t:DTF):TE:=λσ H Q=>∃H₀ σD QD,DOk K H₀ H σD σ/\t σD QD/\∀a H' vs xs,Same H H'->H a=none->H' a=some (.lst vs)->Reps K H' xs vs->QD xs->Q (.ref a) H'
def cnT(t:DTT):TT:=λσ H Q=>∃H₀ σD QD,DOk K H₀ H σD σ/\t σD QD/\∀b H',Same H H'->QD b->Q b H'
def cnA(t:DTF):TA:=λσ H Q=>∃H₀ σD QD,DOk K H₀ H σD σ/\t σD QD/\∀vs H' ds,Same H H'->Reps K H' ds vs->QD ds->Q vs H'
def zt1(t:DTF):TA:=λσ H Q=>∃H₀ σD QD,DOk K H₀ H σD σ/\t σD QD/\∀vs H' ds,Same H H'->RepTs K H' ds vs->QD ds->Q vs H'
def cnP(t:DTP):TA:=λσ H Q=>∃H₀ σD QD,DOk K H₀ H σD σ/\t σD QD/\∀vs H' ws,Same H H'->RepWs K H' ws vs->QD ws->Q vs H'
end
section
variable {X:Cx}{e:Expr}{es:List Expr}
theorem DE.pe{t:DTE}(h:DE X e t):PE X e (cnE X.K t):=λpins s σ H Q I zq63=>by obtain⟨H₀,σD,QD,ok,q,k⟩:=zq63;exact thn (h.run pins s σ H H₀ σD QD I ok q) λu s' zq50=>by obtain⟨v,H',d,I',r,sm,rp,qd⟩:=zq50;exact⟨v,H',I',r,k v H' d sm rp qd⟩
theorem DV.pe{t:DTE}(h:DV X e t):PE X e (cnV X.K t):=λpins s σ H Q I zq63=>by obtain⟨H₀,σD,QD,ok,q,k⟩:=zq63;exact thn (h.run pins s σ H H₀ σD QD I ok q) λu s' zq50=>by obtain⟨v,H',d,I',r,sm,rp,qd⟩:=zq50;exact⟨v,H',I',r,k v H' d sm rp qd⟩
theorem DF.pe{t:DTF}(h:DF X e t):PE X e (cnF X.K t):=λpins s σ H Q I zq63=>by obtain⟨H₀,σD,QD,ok,q,k⟩:=zq63;exact thn (h.run pins s σ H H₀ σD QD I ok q) λu s' zq50=>by obtain⟨a,H',vs,xs,eu,I',sm,n,e,rp,qd⟩:=zq50;exact⟨.ref a,H',I',eu,k a H' vs xs sm n e rp qd⟩
theorem DT.pt{t:DTT}(h:DT X e t):PT X e (cnT X.K t):=λpins s σ H Q I zq63=>by obtain⟨H₀,σD,QD,ok,q,k⟩:=zq63;exact thn (h.run pins s σ H H₀ σD QD I ok q) λu s' zq50=>by obtain⟨H',I',sm,qd⟩:=zq50;exact⟨H',I',k u H' sm qd⟩
theorem DA.pa{t:DTF}(h:DA X es t):PA X es (cnA X.K t):=λpos pins s σ H Q I zq65=>by obtain⟨H₀,σD,QD,ok,q,k⟩:=zq65;exact thn (h.run pos pins s σ H H₀ σD QD I ok q) λus s' zq60=>by obtain⟨vs,H',ds,I',r,sm,rp,qd⟩:=zq60;exact⟨vs,H',I',r,k vs H' ds sm rp qd⟩
theorem DAv.pa{t:DTF}(h:DAv X es t):PA X es (zt1 X.K t):=λpos pins s σ H Q I zq68=>by obtain⟨H₀,σD,QD,ok,q,k⟩:=zq68;exact thn (h.run pos pins s σ H H₀ σD QD I ok q) λus s' zq63=>by obtain⟨vs,H',ds,I',r,sm,rp,qd⟩:=zq63;exact⟨vs,H',I',r,k vs H' ds sm rp qd⟩
theorem DPs.pa{t:DTP}(h:DPs X es t):PA X es (cnP X.K t):=λpos pins s σ H Q I zq67=>by obtain⟨H₀,σD,QD,ok,q,k⟩:=zq67;exact thn (h.run pos pins s σ H H₀ σD QD I ok q) λus s' zq62=>by obtain⟨vs,H',ws,I',r,sm,rp,qd⟩:=zq62;exact⟨vs,H',I',r,k vs H' ws sm rp qd⟩
theorem DE.of{t:DTE}{t':TE}(h:PE X e t')(k:∀σ H H₀ σD QD,DOk X.K H₀ H σD σ->t σD QD->t' σ H (λv H'=>∃d,Same H H'/\Rep X.K H' d v/\QD d)):DE X e t :=
 ⟨λpins s σ H H₀ σD Q I ok q=>thn (h pins s σ H _ I (k σ H H₀ σD Q ok q)) λu s' zq80=>by obtain⟨v,H',I',r,d,sm,rp,qd⟩:=zq80;exact⟨v,H',d,I',r,sm,rp,qd⟩⟩
theorem DV.of{t:DTE}{t':TE}(h:PE X e t')(k:∀σ H H₀ σD QD,DOk X.K H₀ H σD σ->t σD QD->t' σ H (λv H'=>∃d,Same H H'/\RepT X.K H' d v/\QD d)):DV X e t :=
 ⟨λpins s σ H H₀ σD Q I ok q=>thn (h pins s σ H _ I (k σ H H₀ σD Q ok q)) λu s' zq80=>by obtain⟨v,H',I',r,d,sm,rp,qd⟩:=zq80;exact⟨v,H',d,I',r,sm,rp,qd⟩⟩
theorem DF.of{t:DTF}{t':TE}(h:PE X e t')(k:∀σ H H₀ σD QD,DOk X.K H₀ H σD σ->t σD QD->t' σ H (λv H'=>∃a vs xs,v=.ref a/\Same H H'/\H a=none/\H' a=some (.lst vs)/\Reps X.K H' xs vs/\QD xs)):DF X e t :=
 ⟨λpins s σ H H₀ σD Q I ok q=>thn (h pins s σ H _ I (k σ H H₀ σD Q ok q)) λu s' zq80=>by obtain⟨v,H',I',r,a,vs,xs,ev,sm,n,e,rp,qd⟩:=zq80;exact⟨a,H',vs,xs,by subst ev;exact r,I',sm,n,e,rp,qd⟩⟩
theorem DT.of{t:DTT}{t':TT}(h:PT X e t')(k:∀σ H H₀ σD QD,DOk X.K H₀ H σD σ->t σD QD->t' σ H (λb H'=>Same H H'/\QD b)):DT X e t :=
 ⟨λpins s σ H H₀ σD Q I ok q=>thn (h pins s σ H _ I (k σ H H₀ σD Q ok q)) λu s' zq80=>by obtain⟨H',I',sm,qd⟩:=zq80;exact⟨H',I',sm,qd⟩⟩
theorem DE.dv{t:DTE}(h:DE X e t):DV X e t:=⟨λpins s σ H H₀ σD Q I ok q=>thn (h.run pins s σ H H₀ σD Q I ok q) λu s' zq28=>by obtain⟨v,H',d,I',r,sm,rp,qd⟩:=zq28;exact⟨v,H',d,I',r,sm,rp.top,qd⟩⟩
theorem za5{pins:List (Addr×Obj)}{σ:St}{H H':Hp}{s:Shared}{a:Addr}{vs:List V}{xs:List D}(I:Inv X pins σ H' s)(sm:Same H H')(n:H a=none)(e:H' a=some (.lst vs))(r:Reps X.K H' xs vs):
  ∃H'',Inv X pins σ H'' s/\Same H H''/\Rep X.K H'' (.list xs) (.ref a):=by
 obtain⟨o,J⟩:=I.frz e;refine⟨_,J,λb u hb=>?_,.lst zm (r.mono (vn e rfl))⟩;rw[zh (yd hb n)];exact sm b u hb
def dFz(t:DTF):DTE:=λσ Q=>t σ λxs=>Q (.list xs)
theorem DF.de{t:DTF}(h:DF X e t):DE X e (dFz t):=⟨λpins s σ H H₀ σD Q I ok q=>thn (h.run pins s σ H H₀ σD _ I ok q) λu s' zq34=>by
 obtain⟨a,H',vs,xs,eu,I',sm,n,e,rp,qd⟩:=zq34;obtain⟨H'',J,sm',r'⟩:=za5 I' sm n e rp;exact⟨.ref a,H'',.list xs,J,eu,sm',r',qd⟩⟩
def znu(i:Nat):DTE:=λσ Q=>match σ[i]? with
 |some (some (.val d))=>Q d
 |_=>False
def znv(i:Nat):DTE:=λσ Q=>match σ[i]? with
 |some (some (.val d))=>Q d
 |some (some (.own (.lst xs)))=>Q (.list xs)
 |some (some (.vw xs))=>Q (.list xs)
 |_=>False
def dC(d:D):DTE:=λ_ Q=>Q d
theorem zt(i:Nat){x:Str}{pos:Pos}(hN:X.N[i]?=some x:=by rfl)(hv:Vis X.env.scope x:=by first|exact Or.inl rfl|exact Or.inr (Or.inl rfl)|exact Or.inr (Or.inr rfl))(hd:(x ==("__debug__" : Str))=false:=by decide)
  (hcd:(x ==("__classdict__" : Str))=false:=by decide):DE X (.Name x pos) (znu i):=by
 refine DE.of (x5 (i:=i) hN hv hd hcd) λσ H H₀ σD QD ok q=>?_;unfold znu at q
 split at q
 ·next d e=>
  obtain⟨v,e1,r⟩:=ok.val e;exact⟨v,e1,d,Same.refl _,r,q⟩
 ·exact q.elim
theorem zb(i:Nat){x:Str}{pos:Pos}(hN:X.N[i]?=some x:=by rfl)(hv:Vis X.env.scope x:=by first|exact Or.inl rfl|exact Or.inr (Or.inl rfl)|exact Or.inr (Or.inr rfl))(hd:(x ==("__debug__" : Str))=false:=by decide)
  (hcd:(x ==("__classdict__" : Str))=false:=by decide):DV X (.Name x pos) (znv i):=by
 refine DV.of (x5 (i:=i) hN hv hd hcd) λσ H H₀ σD QD ok q=>?_;unfold znv at q
 split at q
 ·next d e=>
  obtain⟨v,e1,r⟩:=ok.val e;exact⟨v,e1,d,Same.refl _,r.top,q⟩
 ·next xs e=>
  obtain⟨a,vs,e1,e2,r,_⟩:=ok.ownL e;exact⟨.ref a,e1,.list xs,Same.refl _,.inr ⟨xs,rfl,a,vs,rfl,.inl e2,r⟩,q⟩
 ·next xs e=>
  obtain⟨v,e1,r⟩:=ok.vw e;exact⟨v,e1,.list xs,Same.refl _,.inr ⟨xs,rfl,r⟩,q⟩
 ·exact q.elim
theorem zc{i j pos}:DE X (.Constant (.int i) j pos) (dC (.int i)):=DE.of x6 λσ H H₀ σD QD ok q=>⟨.int i,Same.refl _,.int,q⟩
theorem jh{b j pos}:DE X (.Constant (.bool b) j pos) (dC (.bool b)):=DE.of zr8 λσ H H₀ σD QD ok q=>⟨.bool b,Same.refl _,.bl,q⟩
theorem yr{x j pos}:DE X (.Constant (.str x) j pos) (dC (.str x)):=DE.of zpy λσ H H₀ σD QD ok q=>⟨.str x,Same.refl _,.str,q⟩
theorem zac{x:Str}{d:D}{v:V}{u:Value}{pos:Pos}(hg:Gl X x)(hm:X.mg x=some u)(r:RelV v u)(rp:∀H,Rep X.K H d v)(hd:(x ==("__debug__" : Str))=false:=by decide):DE X (.Name x pos) (dC d) :=
 DE.of (yv hg hm r hd) λσ H H₀ σD QD ok q=>⟨d,Same.refl _,rp H,q⟩
def zlf:DTF:=λ_ Q=>Q []
def zfq(t:DTE)(r:DTF):DTF:=λσ Q=>t σ λd=>r σ λds=>Q (d::ds)
theorem zg:DA X [] zlf:=⟨λpos pins s σ H H₀ σD Q I ok q=>thn (xp pos pins s σ H (λvs H'=>vs = []/\H'=H) I ⟨rfl,rfl⟩) λus s' zq47=>by obtain⟨vs,H',I',r,e1,e2⟩:=zq47;subst e1 e2;exact⟨[],H',[],I',r,Same.refl _,.nil,q⟩⟩
theorem za{t:DTE}{r:DTF}(ha:DE X e t)(hr:DA X es r)(hs:starEach (e::es) X.env=(false,eval e X.env)::starEach es X.env:=by rfl):DA X (e::es) (zfq t r):=⟨λpos pins s σ H H₀ σD Q I ok q=>by
 refine thn (yo ha.pe hr.pa hs pos pins s σ H (λvs H'=>∃ds,Same H H'/\Reps X.K H' ds vs/\Q ds) I ?_) λus s' zq19=>by obtain⟨vs,H',I',r,ds,sm,rp,qd⟩:=zq19;exact⟨vs,H',ds,I',r,sm,rp,qd⟩
 exact⟨H₀,σD,_,ok,q,λv H1 d s1 r1 q1=>⟨H₀,σD,_,ok.after s1,q1,λvs H2 ds s2 r2 q2=>⟨d::ds,s1.trans s2,.cons (r1.same s2) r2,q2⟩⟩⟩⟩
theorem yg:DAv X [] zlf:=⟨λpos pins s σ H H₀ σD Q I ok q=>thn (xp pos pins s σ H (λvs H'=>vs = []/\H'=H) I ⟨rfl,rfl⟩) λus s' zq49=>by obtain⟨vs,H',I',r,e1,e2⟩:=zq49;subst e1 e2;exact⟨[],H',[],I',r,Same.refl _,.nil,q⟩⟩
theorem zr{t:DTE}{r:DTF}(ha:DV X e t)(hr:DAv X es r)(hs:starEach (e::es) X.env=(false,eval e X.env)::starEach es X.env:=by rfl):DAv X (e::es) (zfq t r):=⟨λpos pins s σ H H₀ σD Q I ok q=>by
 refine thn (yo ha.pe hr.pa hs pos pins s σ H (λvs H'=>∃ds,Same H H'/\RepTs X.K H' ds vs/\Q ds) I ?_) λus s' zq20=>by obtain⟨vs,H',I',r,ds,sm,rp,qd⟩:=zq20;exact⟨vs,H',ds,I',r,sm,rp,qd⟩
 exact⟨H₀,σD,_,ok,q,λv H1 d s1 r1 q1=>⟨H₀,σD,_,ok.after s1,q1,λvs H2 ds s2 r2 q2=>⟨d::ds,s1.trans s2,.cons (r1.same s2) r2,q2⟩⟩⟩⟩
def zlg:DTP:=λ_ Q=>Q []
def zlh(t:DTE)(r:DTP):DTP:=λσ Q=>t σ λd=>r σ λws=>Q (.val d::ws)
def znw(i:Nat)(r:DTP):DTP:=λσ Q=>match σ[i]? with
 |some (some (.own (.lst xs)))=>r σ λws=>Q (.vw xs::ws)
 |some (some (.vw xs))=>r σ λws=>Q (.vw xs::ws)
 |some (some (.scr ns))=>r σ λws=>Q (.scr ns::ws)
 |some (some (.val d))=>r σ λws=>Q (.val d::ws)
 |some (some .pen)=>r σ λws=>Q (.pen::ws)
 |_=>False
theorem yb:DPs X [] zlg:=⟨λpos pins s σ H H₀ σD Q I ok q=>thn (xp pos pins s σ H (λvs H'=>vs = []/\H'=H) I ⟨rfl,rfl⟩) λus s' zq49=>by obtain⟨vs,H',I',r,e1,e2⟩:=zq49;subst e1 e2;exact⟨[],H',[],I',r,Same.refl _,.nil,q⟩⟩
theorem yz{t:DTE}{r:DTP}(ha:DE X e t)(hr:DPs X es r)(hs:starEach (e::es) X.env=(false,eval e X.env)::starEach es X.env:=by rfl):DPs X (e::es) (zlh t r):=⟨λpos pins s σ H H₀ σD Q I ok q=>by
 refine thn (yo ha.pe hr.pa hs pos pins s σ H (λvs H'=>∃ws,Same H H'/\RepWs X.K H' ws vs/\Q ws) I ?_) λus s' zq20=>by obtain⟨vs,H',I',r,ds,sm,rp,qd⟩:=zq20;exact⟨vs,H',ds,I',r,sm,rp,qd⟩
 exact⟨H₀,σD,_,ok,q,λv H1 d s1 r1 q1=>⟨H₀,σD,_,ok.after s1,q1,λvs H2 ds s2 r2 q2=>⟨.val d::ds,s1.trans s2,.cons (r1.same s2) r2,q2⟩⟩⟩⟩
theorem ya(i:Nat){x:Str}{pos:Pos}{r:DTP}(hr:DPs X es r)(hN:X.N[i]?=some x:=by rfl)(hv:Vis X.env.scope x:=by first|exact Or.inl rfl|exact Or.inr (Or.inl rfl)|exact Or.inr (Or.inr rfl))(hd:(x ==("__debug__" : Str))=false:=by decide)
  (hcd:(x ==("__classdict__" : Str))=false:=by decide) (hs:starEach (.Name x pos::es) X.env=(false,eval (.Name x pos) X.env)::starEach es X.env:=by rfl):DPs X (.Name x pos::es) (znw i r):=⟨λpos' pins s σ H H₀ σD Q I ok q=>by
 refine thn (yo (x5 (i:=i) hN hv hd hcd) hr.pa hs pos' pins s σ H (λvs H'=>∃ws,Same H H'/\RepWs X.K H' ws vs/\Q ws) I ?_) λus s' zq46=>by obtain⟨vs,H',I',r,ds,sm,rp,qd⟩:=zq46;exact⟨vs,H',ds,I',r,sm,rp,qd⟩
 unfold znw at q
 split at q
 ·next xs e=>
  obtain⟨a,vs,e1,e2,r,_⟩:=ok.ownL e;exact⟨.ref a,e1,H₀,σD,_,ok,q,λws H2 ds s2 r2 q2=>⟨.vw xs::ds,s2,.cons (RepL.same s2 ⟨a,vs,rfl,.inl e2,r⟩) r2,q2⟩⟩
 ·next xs e=>
  obtain⟨v,e1,r⟩:=ok.vw e;exact⟨v,e1,H₀,σD,_,ok,q,λws H2 ds s2 r2 q2=>⟨.vw xs::ds,s2,.cons (RepL.same s2 r) r2,q2⟩⟩
 ·next ns e=>
  obtain⟨a,e1,r⟩:=ok.scr e;exact⟨.ref a,e1,H₀,σD,_,ok,q,λws H2 ds s2 r2 q2=>⟨.scr ns::ds,s2,.cons ⟨a,rfl,s2.seq r⟩ r2,q2⟩⟩
 ·next d e=>
  obtain⟨v,e1,r⟩:=ok.val e;exact⟨v,e1,H₀,σD,_,ok,q,λws H2 ds s2 r2 q2=>⟨.val d::ds,s2,.cons (r.same s2) r2,q2⟩⟩
 ·next e=>
  obtain⟨a,e1,r⟩:=ok.pen e;exact⟨.ref a,e1,H₀,σD,_,ok,q,λws H2 ds s2 r2 q2=>⟨.pen::ds,s2,.cons ⟨a,rfl,s2 _ _ r⟩ r2,q2⟩⟩
 ·exact q.elim⟩
def zql(t:DTF):DTE:=λσ Q=>t σ λds=>ds.length<=sizeLine/\Q (.tuple ds)
def zqm(t:DTF):DTF:=λσ Q=>t σ λds=>ds.length<=sizeLine/\Q ds
theorem zw{x1 pos}{t:DTF}(h:DA X es t):DE X (.Tuple es x1 pos) (zql t) :=
 DE.of (zk3 h.pa) λσ H H₀ σD QD ok q=>⟨H₀,σD,_,ok,q,λvs H1 ds s1 r1 q1=>⟨by rw[<-r1.length];exact q1.1,λp hp=>⟨.tuple ds,s1.trans (zy hp _),.tup (SqT.of zm) (r1.same (zy hp _)),q1.2⟩⟩⟩
theorem yw{pos}{t:DTF}(h:DA X es t):DF X (.List es pos) (zqm t) :=
 DF.of (zk4 h.pa) λσ H H₀ σD QD ok q=>⟨H₀,σD,_,ok,q,λvs H1 ds s1 r1 q1=>⟨by rw[<-r1.length];exact q1.1,λp hp=>⟨p,vs,ds,rfl,s1.trans (zy hp _),s1.free hp,zm,r1.same (zy hp _),q1.2⟩⟩⟩
variable {a b:Expr}{rest:List Expr}{pos:Pos}
def onB(Q:Bool->Prop):D->Prop
 |.bool b=>Q b
 |_=>False
def dTB(t:DTE):DTT:=λσ Q=>t σ (onB Q)
def zqn(t u:DTT):DTT:=λσ Q=>t σ λc=>if c=true then u σ Q else Q false
def dOr(t u:DTT):DTT:=λσ Q=>t σ λc=>if c=true then Q true else u σ Q
def zqo(t:DTT):DTT:=λσ Q=>t σ λc=>Q (!c)
theorem DWt.dt{t:DTT}(h:DWt X e t):DT X e t:=⟨h.run _⟩
theorem k8{t:DTT}(ha:DT X a t):DWt X (.BoolOp .And [a] pos) t:=⟨λwh pins s σ H H₀ σD Q I ok q=>by
 refine isTrue_and (thn (ha.run pins s σ H H₀ σD Q I ok q) λc s1 e=>?_)
 cases c with
 |true=>exact isTrue_and_nil e
 |false=>exact e⟩
theorem zg0{t:DTT}(ha:DT X a t):DWt X (.BoolOp .Or [a] pos) t:=⟨λwh pins s σ H H₀ σD Q I ok q=>by
 refine isTrue_or (thn (ha.run pins s σ H H₀ σD Q I ok q) λc s1 e=>?_)
 cases c with
 |false=>exact isTrue_or_nil e
 |true=>exact e⟩
theorem ju{t u:DTT}(ha:DT X a t)(hb:DWt X (.BoolOp .And (b::rest) pos) u):DWt X (.BoolOp .And (a::b::rest) pos) (zqn t u):=⟨λwh pins s σ H H₀ σD Q I ok q=>by
 refine isTrue_and (thn (ha.run pins s σ H H₀ σD _ I ok q) λc s1 ⟨H1,I1,sm,q1⟩=>?_)
 cases c with
 |true=>
  rw[if_pos rfl]at q1;exact thn (hb.run wh pins s1 σ H1 H₀ σD Q I1 (ok.after sm) q1) λ_ _ zq67=>by obtain⟨H2,I2,s2,q2⟩:=zq67;exact⟨H2,I2,sm.trans s2,q2⟩
 |false=>rw[if_neg Bool.false_ne_true]at q1;exact⟨H1,I1,sm,q1⟩⟩
theorem zh9{t u:DTT}(ha:DT X a t)(hb:DWt X (.BoolOp .Or (b::rest) pos) u):DWt X (.BoolOp .Or (a::b::rest) pos) (dOr t u):=⟨λwh pins s σ H H₀ σD Q I ok q=>by
 refine isTrue_or (thn (ha.run pins s σ H H₀ σD _ I ok q) λc s1 ⟨H1,I1,sm,q1⟩=>?_)
 cases c with
 |false=>
  rw[if_neg Bool.false_ne_true]at q1;exact thn (hb.run wh pins s1 σ H1 H₀ σD Q I1 (ok.after sm) q1) λ_ _ zq67=>by obtain⟨H2,I2,s2,q2⟩:=zq67;exact⟨H2,I2,sm.trans s2,q2⟩
 |true=>rw[if_pos rfl]at q1;exact⟨H1,I1,sm,q1⟩⟩
theorem zeb{t:DTT}(ha:DT X a t):DT X (.UnaryOp .Not a pos) (zqo t):=⟨λpins s σ H H₀ σD Q I ok q=>isTrue_not (ha.run pins s σ H H₀ σD (λc=>Q (!c)) I ok q)⟩
def zli:D->Bool
 |.none=>false
 |.bool b=>b
 |.int i=>i != 0
 |.str x=>(x.length:Int) != 0
 |.tuple xs=>!xs.isEmpty
 |.list xs=>!xs.isEmpty
 |.dict kvs=>!kvs.isEmpty
def zqp(t:DTE):DTT:=λσ Q=>t σ λd=>match d with
 |.str x=>x.length<=sizeLine/\Q (zli (.str x))
 |.dict _=>False
 |d=>Q (zli d)
theorem zg1{K:PySem.W.Frag}{H:Hp}{ds:List D}{vs:List V}(r:Reps K H ds vs):(!vs.isEmpty) = !ds.isEmpty:=by cases r <;> rfl
theorem k9{K:PySem.W.Frag}{H:Hp}{d:D}{v:V}(r:RepT K H d v)(h:match d with|.str x=>x.length<=sizeLine|.dict _=>False|_=>True):zp8 K v H (zli d):=by
 rcases r with r |⟨xs,rfl,a,vs,rfl,e,r⟩
 ·cases r with
  |non=>rfl
  |bl=>rfl
  |int=>rfl
  |str=>exact⟨h,rfl⟩
  |tup q r=>exact .inr (.inl ⟨_,q,(zg1 r).symm⟩)
  |lst q r=>exact .inl ⟨_,.inl (.inr ⟨_,q⟩),(zg1 r).symm⟩
  |dic q r=>exact h.elim
 ·exact .inl ⟨vs,.inl e,(zg1 r).symm⟩
theorem jv{t:DTE}(h:DV X e t)(he:∀whole,isTrue e X.env whole=(do let v <-whole;standAt e.pos;holding [v] (truthy v)):=by intro _;rfl):DT X e (zqp t) :=
 DT.of (zk1 h.pe he) λσ H H₀ σD QD ok q=>⟨H₀,σD,_,ok,q,λv H1 d s1 r1 q1=>by
  cases d with
  |str x=>exact⟨_,k9 r1 q1.1,s1,q1.2⟩
  |dict _=>exact q1.elim
  |none=>exact⟨_,k9 r1 trivial,s1,q1⟩
  |bool _=>exact⟨_,k9 r1 trivial,s1,q1⟩
  |int _=>exact⟨_,k9 r1 trivial,s1,q1⟩
  |tuple _=>exact⟨_,k9 r1 trivial,s1,q1⟩
  |list _=>exact⟨_,k9 r1 trivial,s1,q1⟩⟩
def zqq(c:DTT)(t u:DTE):DTE:=λσ Q=>c σ λb=>if b=true then t σ Q else u σ Q
theorem DEnd.back{pins:List (Addr×Obj)}{σ:St}{H H1:Hp}{Q:D->Prop}{u:Value}{s':Shared}(s1:Same H H1)(h:DEnd X pins σ H1 Q u s'):DEnd X pins σ H Q u s':=let ⟨v,H',d,I',r,sm,rp,qd⟩:=h;⟨v,H',d,I',r,s1.trans sm,rp,qd⟩
theorem zad{c:Expr}{tc:DTT}{t u:DTE}(hc:DT X c tc)(ha:DE X a t)(hb:DE X b u):DE X (.IfExp c a b pos) (zqq tc t u) :=
 DE.of (zku hc.pt ha.pe hb.pe) λσ H H₀ σD QD ok q=>⟨H₀,σD,_,ok,q,λk H1 s1 q1=>by
  cases k with
  |true=>rw[if_pos rfl]at q1 ⊢;exact⟨H₀,σD,_,ok.after s1,q1,λv H2 d s2 r2 q2=>⟨d,s1.trans s2,r2,q2⟩⟩
  |false=>rw[if_neg Bool.false_ne_true]at q1 ⊢;exact⟨H₀,σD,_,ok.after s1,q1,λv H2 d s2 r2 q2=>⟨d,s1.trans s2,r2,q2⟩⟩⟩
end
section
variable {X:Cx}{pins:List (Addr×Obj)}{σ:St}{H:Hp}{s:Shared}
mutual
theorem Rep.reads(I:Inv X pins σ H s):∀{d:D}{v:V}{u:Value},Rep X.K H d v->RelV v u->d.canLay0=true->∃as,Reads s.heap u d as
 |_,_,_,.non,r,_=>by cases r;exact⟨_,.none⟩
 |_,_,_,.bl,r,_=>by cases r;exact⟨_,.bool _⟩
 |_,_,_,.int,r,_=>by obtain⟨t,rfl⟩:=r;exact⟨_,.int _ _⟩
 |_,_,_,.str,r,_=>by obtain⟨t,rfl⟩:=r;exact⟨_,.str _ _⟩
 |_,_,_,.tup h q,r,c=>by
  cases r;obtain⟨its,rv,⟨o,e1,e2,n,e3⟩,_⟩:=I.tuple h;obtain⟨as,ra⟩:=Reps.reads I q rv (by simpa[PyData.canLay0]using c);exact⟨_,.tuple e1 e2 e3 (by simpa using ra)⟩
 |_,_,_,.lst h q,r,c=>by
  cases r;obtain⟨_,z,its,n,rv,e⟩:=I.hok _ _ h;obtain⟨as,ra⟩:=Reps.reads I q rv (by simpa[PyData.canLay0]using c);exact⟨_,.list e rfl rfl (by simpa using ra)⟩
 |_,_,_,.dic h q,r,c=>by simp[PyData.canLay0]at c
theorem Reps.reads(I:Inv X pins σ H s):∀{ds:List D}{vs:List V}{us:List Value},Reps X.K H ds vs->Vals vs us->PyData.canLayAll0 ds=true->∃as,ReadsAll s.heap us ds as
 |_,_,_,.nil,r,_=>by cases r;exact⟨_,.nil⟩
 |_,_,_,.cons q t,r,c=>by
  cases r with
  |cons r1 r2=>
   simp only[PyData.canLayAll0,Bool.and_eq_true]at c;obtain⟨as,ra⟩:=Rep.reads I q r1 c.1;obtain⟨bs,rb⟩:=Reps.reads I t r2 c.2;exact⟨_,.cons ra rb⟩
end
theorem RepT.reads(I:Inv X pins σ H s){d:D}{v:V}{u:Value}(h:RepT X.K H d v)(r:RelV v u)(c:d.canLay0=true):∃as,Reads s.heap u d as:=by
 rcases h with h |⟨xs,rfl,a,vs,rfl,e,q⟩
 ·exact h.reads I r c
 ·cases r;obtain⟨z,its,n,rv,e⟩:=e.ok I.hok;obtain⟨as,ra⟩:=Reps.reads I q rv (by simpa[PyData.canLay0]using c);exact⟨_,.list e rfl rfl (by simpa using ra)⟩
end
def Lay(d:D):Prop:=SeqAt.shaped d=true
theorem Lay.can{d:D}(h:Lay d):d.canLay0=true:=by unfold Lay SeqAt.shaped at h;rw[Bool.and_eq_true]at h;exact h.1
theorem Lay.deep{d:D}(h:Lay d):d.depth<=64:=by unfold Lay SeqAt.shaped at h;rw[Bool.and_eq_true]at h;exact of_decide_eq_true h.2
abbrev DOp:=D->D->(D->Prop)->Prop
structure OpD(X:Cx)(f:Value->Value->Sem Value)(g:DOp):Prop where
 run:∀(pins:List (Addr×Obj)) (s:Shared) (σ:St) (H:Hp) (x y:V) (v u:Value) (a b:D) (Q:D->Prop),Inv X pins σ H s->RelV x v->RelV y u->RepT X.K H a x->RepT X.K H b y->g a b Q->wpAny (model X.prog X.w) X.A (f v u) (DEnd X pins σ H Q) X.xe s
structure OpF(X:Cx)(f:Value->Value->Sem Value)(g:D->D->(List D->Prop)->Prop):Prop where
 run:∀(pins:List (Addr×Obj)) (s:Shared) (σ:St) (H:Hp) (x y:V) (v u:Value) (a b:D) (Q:List D->Prop),Inv X pins σ H s->RelV x v->RelV y u->RepT X.K H a x->RepT X.K H b y->g a b Q->wpAny (model X.prog X.w) X.A (f v u) (zdh X pins σ H Q) X.xe s
def dOp(g:DOp)(ta tb:DTE):DTE:=λσ Q=>ta σ λa=>tb σ λb=>g a b Q
section
variable {X:Cx}{a b c:Expr}{ta tb tc:DTE}{pos:Pos}
theorem OpD.of{f:Value->Value->Sem Value}{r:R2}{g:DOp}(h:OpR X f r)(k:∀x y H a b Q,RepT X.K H a x->RepT X.K H b y->g a b Q->r x y H (λv H'=>∃d,Same H H'/\Rep X.K H' d v/\Q d)):OpD X f g :=
 ⟨λpins s σ H x y v u a b Q I rx ry ra rb q=>thn (h pins s σ H x y v u _ I rx ry (k x y H a b Q ra rb q)) λw s' zq15=>by obtain⟨z,H',I',rz,d,sm,rp,qd⟩:=zq15;exact⟨z,H',d,I',rz,sm,rp,qd⟩⟩
theorem OpF.of{f:Value->Value->Sem Value}{r:R2}{g:D->D->(List D->Prop)->Prop}(h:OpR X f r)(k:∀x y H a b Q,RepT X.K H a x->RepT X.K H b y->g a b Q->r x y H (λv H'=>∃p vs xs,v=.ref p/\Same H H'/\H p=none/\H' p=some (.lst vs)/\Reps X.K H' xs vs/\Q xs)):OpF X f g :=
 ⟨λpins s σ H x y v u a b Q I rx ry ra rb q=>thn (h pins s σ H x y v u _ I rx ry (k x y H a b Q ra rb q)) λw s' zq15=>by obtain⟨z,H',I',rz,p,vs,xs,ez,sm,n,e,rp,qd⟩:=zq15;exact⟨p,H',vs,xs,by subst ez;exact rz,I',sm,n,e,rp,qd⟩⟩
theorem OpF.opD{f:Value->Value->Sem Value}{g:D->D->(List D->Prop)->Prop}(h:OpF X f g):OpD X f (λa b Q=>g a b λxs=>Q (.list xs)) :=
 ⟨λpins s σ H x y v u a b Q I rx ry ra rb q=>thn (h.run pins s σ H x y v u a b _ I rx ry ra rb q) λw s' zq7=>by
  obtain⟨p,H',vs,xs,ew,I',sm,n,e,rp,qd⟩:=zq7;obtain⟨H'',J,sm',r'⟩:=za5 I' sm n e rp;exact⟨.ref p,H'',.list xs,J,ew,sm',r',qd⟩⟩
theorem zsy{ta tb:DTE}(ha:DV X a ta)(hb:DV X b tb){pins:List (Addr×Obj)}{s:Shared}{σ:St}{H H₀:Hp}{σD:DSt}{R:D->D->Prop}(I:Inv X pins σ H s)(ok:DOk X.K H₀ H σD σ)(h:ta σD λx=>tb σD λy=>R x y)
  {α:Type}{Q:α->Shared->Prop}{f:Value->Value->Sem α}
  (hf:∀v u s2 x y H2 d e,Inv X pins σ H2 s2->RelV x v->RelV y u->Same H H2->RepT X.K H2 d x->RepT X.K H2 e y->R d e->wpAny (model X.prog X.w) X.A (f v u) Q X.xe s2) :
  wpAny (model X.prog X.w) X.A (eval a X.env) (λv s₁=>wpAny (model X.prog X.w) X.A (eval b X.env) (λu s₂=>wpAny (model X.prog X.w) X.A (f v u) Q X.xe s₂) X.xe s₁) X.xe s:=by
 refine thn (ha.run pins s σ H H₀ σD _ I ok h) λv s1 ⟨x,H1,d,I1,r1,sm1,p1,q1⟩=>?_;refine thn (hb.run pins s1 σ H1 H₀ σD _ I1 (ok.after sm1) q1) λu s2 ⟨y,H2,e,I2,r2,sm2,p2,q2⟩=>?_;exact hf v u s2 x y H2 d e I2 r1 r2 (sm1.trans sm2) (p1.same sm2) p2 q2
theorem zq{op:Operator}{g:DOp}(ho:OpD X (binaryOp op) g)(ha:DV X a ta)(hb:DV X b tb):DE X (.BinOp a op b pos) (dOp g ta tb) :=
 ⟨λpins s σ H H₀ σD Q I ok q=>wpAny_BinOp (zsy ha hb I ok q λv u s2 x y H2 d e I2 rx ry sm rd re qd=>thn (ho.run pins s2 σ H2 x y v u d e Q I2 rx ry rd re qd) λ_ _ z=>z.back sm)⟩
theorem zlj{op:CmpOp}{g:DOp}(ho:OpD X (compareOp op) g)(ha:DV X a ta)(hb:DV X b tb)(hm:behindInMarks op b=false):DE X (.Compare a [op] [b] pos) (dOp g ta tb) :=
 ⟨λpins s σ H H₀ σD Q I ok q=>wpAny_Compare1 (zsy ha hb I ok q λv u s2 x y H2 d e I2 rx ry sm rd re qd=>thn (ho.run pins s2 σ H2 x y v u d e Q I2 rx ry rd re qd) λ_ _ z=>z.back sm) hm⟩
theorem yc{op:CmpOp}{g:DOp}(ho:OpD X (compareOp op) g)(ha:DV X a ta)(hb:DV X b tb)(hm:behindInMarks op b=false):DT X (.Compare a [op] [b] pos) (dTB (dOp g ta tb)) :=
 ⟨λpins s σ H H₀ σD Q I ok q=>by
  refine wpAny_isTrue_Compare1 (thn (ha.run pins s σ H H₀ σD _ I ok q) λv s1 ⟨x,H1,d,I1,r1,sm1,p1,q1⟩=>thn (hb.run pins s1 σ H1 H₀ σD _ I1 (ok.after sm1) q1) λu s2 ⟨y,H2,e,I2,r2,sm2,p2,q2⟩=>
   thn (ho.run pins s2 σ H2 x y v u d e _ I2 r1 r2 (p1.same sm2) p2 q2) λk s3 ⟨z,H3,dz,I3,r3,sm3,p3,q3⟩=>?_) hm
  cases dz with
  |bool k=>
   cases p3
   cases r3;exact wpAny_truthy_bool ⟨H3,I3,(sm1.trans sm2).trans sm3,q3⟩
  |_=>exact q3.elim⟩
def dUn(g:D->(D->Prop)->Prop)(ta:DTE):DTE:=λσ Q=>ta σ λa=>g a Q
def zqr:D->(D->Prop)->Prop
 |.int i,Q=>Q (.int (-i))
 |_,_=>False
theorem wz(ha:DE X a ta):DE X (.UnaryOp .USub a pos) (dUn zqr ta) :=
 DE.of (zsf zp6 ha.pe) λσ H H₀ σD QD ok q=>⟨H₀,σD,_,ok,q,λv H1 d s1 r1 q1=>by
  cases d with
  |int i=>cases r1;exact⟨i,rfl,.int (-i),s1,.int,q1⟩
  |_=>exact q1.elim⟩
theorem RepT.int{K:PySem.W.Frag}{H:Hp}{i:Int}{v:V}(h:RepT K H (.int i) v):v=.int i:=by
 rcases h with h |⟨_,e,_⟩
 ·cases h;rfl
 ·cases e
theorem RepT.str{K:PySem.W.Frag}{H:Hp}{i:Str}{v:V}(h:RepT K H (.str i) v):v=.str i:=by
 rcases h with h |⟨_,e,_⟩
 ·cases h;rfl
 ·cases e
theorem RepT.bool{K:PySem.W.Frag}{H:Hp}{i:Bool}{v:V}(h:RepT K H (.bool i) v):v=.bl i:=by
 rcases h with h |⟨_,e,_⟩
 ·cases h;rfl
 ·cases e
theorem RepT.none{K:PySem.W.Frag}{H:Hp}{v:V}(h:RepT K H .none v):v=.non:=by
 rcases h with h |⟨_,e,_⟩
 ·cases h;rfl
 ·cases e
theorem RepT.tuple{K:PySem.W.Frag}{H:Hp}{xs:List D}{v:V}(h:RepT K H (.tuple xs) v):∃a vs,v=.ref a/\SqT K H a vs/\Reps K H xs vs:=by
 rcases h with h |⟨_,e,_⟩
 ·cases h with
  |tup h r=>exact⟨_,_,rfl,h,r⟩
 ·cases e
def gII(C:Int->Int->Prop)(f:Int->Int->D):DOp
 |.int i,.int j,Q=>C i j/\Q (f i j)
 |_,_,_=>False
def zec(f:Int->Int->D):DOp
 |.int i,.int j,Q=>Q (f i j)
 |_,_,_=>False
theorem OpD.ii{f:Value->Value->Sem Value}{C:Int->Int->Prop}{g:Int->Int->Int}(h:OpR X f (rI C λi j=>.int (g i j))):OpD X f (gII C λi j=>.int (g i j)) :=
 OpD.of h λx y H a b Q ra rb q=>by
  cases a with
  |int i=>
   cases b with
   |int j=>cases ra.int;cases rb.int;exact⟨i,j,rfl,rfl,q.1,.int _,Same.refl _,.int,q.2⟩
   |_=>exact q.elim
  |_=>exact q.elim
theorem OpD.ii0{f:Value->Value->Sem Value}{g:Int->Int->Int}(h:OpR X f (rI0 λi j=>.int (g i j))):OpD X f (zec λi j=>.int (g i j)) :=
 OpD.of h λx y H a b Q ra rb q=>by
  cases a with
  |int i=>
   cases b with
   |int j=>cases ra.int;cases rb.int;exact⟨i,j,rfl,rfl,.int _,Same.refl _,.int,q⟩
   |_=>exact q.elim
  |_=>exact q.elim
theorem OpD.ib0{f:Value->Value->Sem Value}{g:Int->Int->Bool}(h:OpR X f (rI0 λi j=>.bl (g i j))):OpD X f (zec λi j=>.bool (g i j)) :=
 OpD.of h λx y H a b Q ra rb q=>by
  cases a with
  |int i=>
   cases b with
   |int j=>cases ra.int;cases rb.int;exact⟨i,j,rfl,rfl,.bool _,Same.refl _,.bl,q⟩
   |_=>exact q.elim
  |_=>exact q.elim
theorem vh:OpD X (binaryOp .Sub) (zec λi j=>.int (i-j)):=OpD.ii0 zp3
theorem zlk:OpD X (binaryOp .Mod) (gII (λ_ j=>0<j) λi j=>.int (i % j)):=OpD.ii zgq
theorem zll:OpD X (binaryOp .Pow) (gII znk λi j=>.int (i ^ j.toNat)):=OpD.ii zp5
theorem zlm:OpD X (compareOp .Lt) (zec λi j=>.bool (decide (i<j))):=OpD.ib0 zsh
theorem znx:OpD X (compareOp .LtE) (zec λi j=>.bool (decide (i<=j))):=OpD.ib0 zsi
theorem zed:OpD X (compareOp .Gt) (zec λi j=>.bool (decide (j<i))):=OpD.ib0 zo4
theorem zt2:OpD X (compareOp .GtE) (zec λi j=>.bool (decide (j<=i))):=OpD.ib0 zsj
def zqs:D->D->(List D->Prop)->Prop
 |.list xs,.list ys,Q=>xs.length+ys.length<=sizeLine/\Q (xs++ys)
 |_,_,_=>False
theorem zny:OpR X (binaryOp .Add) (λx y H Q=>∃l b xs zs,x=.ref l/\y=.ref b/\Rd H l (.lst xs)/\Rd H b (.lst zs)/\xs.length+zs.length<=sizeLine/\∀p,H p=none->Q (.ref p) (upd H p (.lst (xs++zs)))):=by
 intro pins s σ H x y v u Q I rx ry h;obtain⟨l,b,xs,zs,rfl,rfl,hH,hB,hz,q⟩:=h
 cases rx
 cases ry;obtain⟨z,its,n,r,e⟩:=hH.ok I.hok;obtain⟨z2,its2,n2,r2,e2⟩:=hB.ok I.hok;have hl:=r.length;have hl2:=r2.length;refine PySem.P.add_list e e2 ?_ (by rw[List.size_toArray,List.size_toArray];omega);have ea:its.toArray++its2.toArray=(its++its2).toArray:=by simp
 rw[ea];exact⟨.ref _,_,I.lnew (t':=s.toks) (r.append r2) (by rw[List.length_append];omega),rfl,q _ I.fresh⟩
theorem f_cat:OpF X (binaryOp .Add) zqs:=OpF.of zny λx y H a b Q ra rb q=>by
 cases a with
 |list xs=>
  cases b with
  |list ys=>
   obtain⟨l,vs,rfl,hl,r1⟩:=ra.list;obtain⟨m,ws,rfl,hm,r2⟩:=rb.list;exact⟨l,m,vs,ws,rfl,rfl,hl,hm,by rw[<-r1.length,<-r2.length];exact q.1,λp hp=>⟨p,_,xs++ys,rfl,zy hp _,hp,zm,(r1.append r2).same (zy hp _),q.2⟩⟩
  |_=>exact q.elim
 |_=>exact q.elim
def zqt:D->D->(List D->Prop)->Prop
 |.list xs,.int k,Q=>-(2 ^ 63)<=k/\k<2 ^ 63/\xs.length * k.toNat<=sizeLine/\Q (List.replicate k.toNat xs).flatten
 |_,_,_=>False
theorem znz:OpR X (binaryOp .Mult) (λx y H Q=>∃l k xs,x=.ref l/\y=.int k/\Rd H l (.lst xs)/\-(2 ^ 63)<=k/\k<2 ^ 63/\xs.length * k.toNat<=sizeLine /\
 ∀p,H p=none->Q (.ref p) (upd H p (.lst (List.replicate k.toNat xs).flatten))):=by
 intro pins s σ H x y v u Q I rx ry h;obtain⟨l,k,xs,rfl,rfl,hH,h1,h2,hz,q⟩:=h
 cases rx;obtain⟨t,rfl⟩:=ry;obtain⟨z,its,n,r,e⟩:=hH.ok I.hok;have hl:=r.length;have hlen:its.toArray.size * k.toNat<=sizeLine:=by rw[List.size_toArray,<-hl];exact hz
 have hcap:¬ its.toArray.size * k.toNat >(2 ^ 63-1) / 8:=by
  have:(sizeLine:Nat)<=(2 ^ 63-1) / 8:=by decide
  omega
 have hfit:¬ (!Builtin.List.listFitsIndex k)=true:=by
  rw[fitsIndex_both h1 h2];exact Bool.false_ne_true
 have hlong:¬ Builtin.List.listTooLong (its.toArray.size * k.toNat)=true:=by
  rw[zk8 hlen];exact Bool.false_ne_true
 have hnew:List.foldl (λx1 x2=>x1++x2) #[] (List.replicate (if its.toArray.isEmpty=true then 0 else k.toNat) its.toArray)=(List.replicate k.toNat its).flatten.toArray:=by
  have f0:∀m:Nat,List.foldl (λx1 x2=>x1++x2) #[] (List.replicate m its.toArray)=(List.replicate m its).flatten.toArray:=λm=>by
   have:=zdd its m [];rw[List.nil_append]at this;exact this
  rw[f0]
  cases its with
  |nil=>simp
  |cons a r'=>rw[if_neg (by simp)]
 refine wpAny_binaryOp_repeat_ref (T := "list") (U := "int") (by decide) ⟨_,e,rfl⟩ (λs'=>typeIs_int s' k t) noFill_list_mul F.fills_int_mul F.slot_int_rmul repeat_list F.slot_int_index.lookup
  (call_meets F.slot_int_rmul (typeIs_int s k t) F.entry_int_rmul (F.args_int_rmul_2 _ _) (int___rmul___int_list k t l its.toArray n)
   ⟨e,rfl,⟨_,e,rfl⟩,call_meets F.slot_list_mul ⟨_,e,rfl⟩ F.entry_list_mul (F.args_list_mul_2 _ _) (AutoListH.list___mul___list_int_3 l its.toArray n k t hfit hcap hlong) ⟨e,?_⟩⟩)
 rw[hnew];exact⟨.ref _,_,I.lnew (t':=s.toks) (r.rep k.toNat) (by rw[znr,Nat.mul_comm];exact hz),rfl,q _ I.fresh⟩
theorem f_rep:OpF X (binaryOp .Mult) zqt:=OpF.of znz λx y H a b Q ra rb q=>by
 cases a with
 |list xs=>
  cases b with
  |int k=>
   obtain⟨l,vs,rfl,hl,r1⟩:=ra.list
   cases rb.int;obtain⟨h1,h2,h3,q⟩:=q;exact⟨l,k,vs,rfl,rfl,hl,h1,h2,by rw[<-r1.length];exact h3,λp hp=>⟨p,_,_,rfl,zy hp _,hp,zm,(r1.rep k.toNat).same (zy hp _),q⟩⟩
  |_=>exact q.elim
 |_=>exact q.elim
def zqu:DOp
 |.int i,.int j,Q=>Q (.int (i+j))
 |.str x,.str y,Q=>x.length+y.length<=sizeLine/\Q (.str (x++y))
 |.tuple xs,.tuple ys,Q=>xs.length+ys.length<=sizeLine/\Q (.tuple (xs++ys))
 |.list xs,.list ys,Q=>xs.length+ys.length<=sizeLine/\Q (.list (xs++ys))
 |_,_,_=>False
theorem zn0:OpR X (binaryOp .Add) (λx y H Q=>∃a b xs ys,x=.ref a/\y=.ref b/\SqT X.K H a xs/\SqT X.K H b ys/\xs.length+ys.length<=sizeLine/\∀p H',Same H H'->SqT X.K H' p (xs++ys)->Q (.ref p) H'):=by
 intro pins s σ H x y v u Q I rx ry h;obtain⟨a,b,xs,ys,rfl,rfl,ha,hb,hz,q⟩:=h
 cases rx
 cases ry;obtain⟨its,r1,p1,_⟩:=I.tuple ha;obtain⟨its2,r2,p2,_⟩:=I.tuple hb
 by_cases hx:xs = []
 ·obtain⟨⟨cls,dd,data,sl⟩,ho,hc,n,hd⟩:=id p1;obtain⟨⟨cls2,dd2,data2,sl2⟩,ho2,hc2,n2,hd2⟩:=id p2;simp only at hc hd hc2 hd2;subst hc hd hc2 hd2;have hv:its = []:=r1.nil_iff.mpr hx;refine concat_meets ⟨_,ho,rfl⟩ ⟨_,ho2,rfl⟩ noFill_tuple_add seq_tuple_add PySem.F.slot_tuple_add PySem.F.entry_tuple_add (PySem.F.args_tuple_add_2 _ _) (tuple_addW0 a b its.toArray its2.toArray n n2 dd dd2 sl sl2 (by simp[hv])) ⟨ho,ho2,?_⟩;exact⟨.ref b,H,I,rfl,q b H (Same.refl H) (by rw[hx,List.nil_append];exact hb)⟩
 ·refine HT.cat_tup p1 p2 (λz=>hx (r1.nil_iff.mp z)) (λz=>⟨.ref a,H,I,rfl,q a H (Same.refl H) (by rw[r2.nil_iff.mp z,List.append_nil];exact ha)⟩) (λz=>?_) (by rw[<-r1.length,<-r2.length];exact hz);refine⟨.ref s.heap.objs.size,_,I.laid (t':=s.toks) (o:=.tup (xs++ys)) (λb ob q=>Heap.get?_push_of_some _ q) (Nat.le_refl _) ?_,rfl,q _ _ (zy (I.hok.fresh (Nat.le_refl _)) _) (SqT.of zm)⟩;exact⟨by rw[List.length_append];exact hz,_,r1.append r2,TupD.new _ _⟩
theorem o_catT:OpD X (binaryOp .Add) (λa b Q=>match a,b with|.tuple xs,.tuple ys=>xs.length+ys.length<=sizeLine/\Q (.tuple (xs++ys))|_,_=>False):=OpD.of zn0 λx y H a b Q ra rb q=>by
 cases a with
 |tuple xs=>
  cases b with
  |tuple ys=>
   obtain⟨l,vs,rfl,hl,r1⟩:=ra.tuple;obtain⟨m,ws,rfl,hm,r2⟩:=rb.tuple;exact⟨l,m,vs,ws,rfl,rfl,hl,hm,by rw[<-r1.length,<-r2.length];exact q.1,λp H' sm e=>⟨_,sm,.tup e ((r1.append r2).same sm),q.2⟩⟩
  |_=>exact q.elim
 |_=>exact q.elim
theorem o_addS:OpD X (binaryOp .Add) (λa b Q=>match a,b with|.str x,.str y=>x.length+y.length<=sizeLine/\Q (.str (x++y))|_,_=>False):=OpD.of zgs λx y H a b Q ra rb q=>by
 cases a with
 |str xs=>
  cases b with
  |str ys=>cases ra.str;cases rb.str;exact⟨_,_,rfl,rfl,q.1,.str _,Same.refl _,.str,q.2⟩
  |_=>exact q.elim
 |_=>exact q.elim
theorem yh:OpD X (binaryOp .Add) zqu:=⟨λpins s σ H x y v u a b Q I rx ry ra rb q=>by
 cases a with
 |int i=>cases b with
  |int j=>exact(OpD.ii0 zky).run pins s σ H x y v u _ _ Q I rx ry ra rb q
  |_=>exact q.elim
 |str i=>cases b with
  |str j=>exact o_addS.run pins s σ H x y v u _ _ Q I rx ry ra rb q
  |_=>exact q.elim
 |tuple i=>cases b with
  |tuple j=>exact o_catT.run pins s σ H x y v u _ _ Q I rx ry ra rb q
  |_=>exact q.elim
 |list i=>cases b with
  |list j=>exact f_cat.opD.run pins s σ H x y v u _ _ Q I rx ry ra rb q
  |_=>exact q.elim
 |_=>exact q.elim⟩
def zqv:DOp
 |.int i,.int j,Q=>CMul i j/\Q (.int (i * j))
 |.list xs,.int k,Q=>-(2 ^ 63)<=k/\k<2 ^ 63/\xs.length * k.toNat<=sizeLine/\Q (.list (List.replicate k.toNat xs).flatten)
 |_,_,_=>False
theorem ji:OpD X (binaryOp .Mult) zqv:=⟨λpins s σ H x y v u a b Q I rx ry ra rb q=>by
 cases a with
 |int i=>cases b with
  |int j=>exact(OpD.ii zp4).run pins s σ H x y v u _ _ Q I rx ry ra rb q
  |_=>exact q.elim
 |list i=>cases b with
  |int j=>exact f_rep.opD.run pins s σ H x y v u _ _ Q I rx ry ra rb q
  |_=>exact q.elim
 |_=>exact q.elim⟩
def gEq:DOp
 |.int i,.int j,Q=>Q (.bool (decide (i=j)))
 |.str i,.str j,Q=>Q (.bool (decide (i=j)))
 |.bool i,.bool j,Q=>Q (.bool (decide (i=j)))
 |a,b,Q=>Lay a/\Lay b/\Q (.bool (PyData.eqv a b))
def gNe:DOp
 |.int i,.int j,Q=>Q (.bool (!decide (i=j)))
 |.str i,.str j,Q=>Q (.bool (!decide (i=j)))
 |.bool i,.bool j,Q=>Q (.bool (!decide (i=j)))
 |a,b,Q=>Lay a/\Lay b/\Q (.bool (!PyData.eqv a b))
theorem zpb(hu:X.A.units+64<cLine):OpD X (compareOp .Eq) (λa b Q=>Lay a/\Lay b/\Q (.bool (PyData.eqv a b))):=⟨λpins s σ H x y v u a b Q I rx ry ra rb q=>by
 obtain⟨as,e1⟩:=ra.reads I rx q.1.can;obtain⟨bs,e2⟩:=rb.reads I ry q.2.1.can;exact eq_dataH e1 e2 q.1 q.2.1 hu ⟨.bl _,H,_,I,rfl,Same.refl _,.bl,q.2.2⟩⟩
theorem zpc(hu:X.A.units+64<cLine):OpD X (compareOp .NotEq) (λa b Q=>Lay a/\Lay b/\Q (.bool (!PyData.eqv a b))):=⟨λpins s σ H x y v u a b Q I rx ry ra rb q=>by
 obtain⟨as,e1⟩:=ra.reads I rx q.1.can;obtain⟨bs,e2⟩:=rb.reads I ry q.2.1.can;exact ne_dataH e1 e2 q.1 q.2.1 hu ⟨.bl _,H,_,I,rfl,Same.refl _,.bl,q.2.2⟩⟩
theorem zia{f:D->D->Bool}(neg:Bool)(op:CmpOp)(h:OpR X (compareOp op) (λx y H Q=>zp7 x y=true/\Q (.bl (if neg then !decide (x=y) else decide (x=y))) H)):
  OpD X (compareOp op) (λa b Q=>match a,b with
   |.int i,.int j=>Q (.bool (if neg then !decide (i=j) else decide (i=j)))
   |.str i,.str j=>Q (.bool (if neg then !decide (i=j) else decide (i=j)))
   |.bool i,.bool j=>Q (.bool (if neg then !decide (i=j) else decide (i=j)))
   |_,_=>False):=OpD.of h λx y H a b Q ra rb q=>by
 cases a with
 |int i=>cases b with
  |int j=>
   cases ra.int;cases rb.int;have e:decide (V.int i=V.int j)=decide (i=j):=by rw[Bool.eq_iff_iff];simp
   rw[e];exact⟨rfl,.bool _,Same.refl _,.bl,q⟩
  |_=>exact q.elim
 |str i=>cases b with
  |str j=>
   cases ra.str;cases rb.str;have e:decide (V.str i=V.str j)=decide (i=j):=by rw[Bool.eq_iff_iff];simp
   rw[e];exact⟨rfl,.bool _,Same.refl _,.bl,q⟩
  |_=>exact q.elim
 |bool i=>cases b with
  |bool j=>
   cases ra.bool;cases rb.bool;have e:decide (V.bl i=V.bl j)=decide (i=j):=by rw[Bool.eq_iff_iff];simp
   rw[e];exact⟨rfl,.bool _,Same.refl _,.bl,q⟩
  |_=>exact q.elim
 |_=>exact q.elim
theorem zn1{k:Nat}(hr:Room k X.A):OpD X (compareOp .Eq) gEq:=⟨λpins s σ H x y v u a b Q I rx ry ra rb q=>by
 have G:=(zpb (X:=X) hr.units).run pins s σ H x y v u a b Q I rx ry ra rb;have S:=(zia (X:=X) (f:=λ_ _=>true) false .Eq zk0).run pins s σ H x y v u a b Q I rx ry ra rb
 cases a <;> cases b <;> first|exact S q|exact G q⟩
theorem zg2{k:Nat}(hr:Room k X.A):OpD X (compareOp .NotEq) gNe:=⟨λpins s σ H x y v u a b Q I rx ry ra rb q=>by
 have G:=(zpc (X:=X) hr.units).run pins s σ H x y v u a b Q I rx ry ra rb;have S:=(zia (X:=X) (f:=λ_ _=>true) true .NotEq zo3).run pins s σ H x y v u a b Q I rx ry ra rb
 cases a <;> cases b <;> first|exact S q|exact G q⟩
def isNone:D->Bool
 |.none=>true
 |_=>false
def inD(x:D)(ys:List D):Bool:=ys.any λy=>PyData.eqv y x
def gIn(neg:Bool):DOp:=λa b Q=>match b with
 |.list ys=>Lay a/\Lay (.list ys)/\Q (.bool (if neg then !inD a ys else inD a ys))
 |.tuple ys=>Lay a/\Lay (.tuple ys)/\Q (.bool (if neg then !inD a ys else inD a ys))
 |_=>False
theorem Lay.all{xs:List D}(h:Lay (.list xs)):PyData.canLayAll0 xs=true:=by simpa[PyData.canLay0]using h.can
theorem Lay.allT{xs:List D}(h:Lay (.tuple xs)):PyData.canLayAll0 xs=true:=by simpa[PyData.canLay0]using h.can
theorem zt3{k:Nat}(hr:Room k X.A):OpD X (compareOp .In) (gIn false):=⟨λpins s σ H x y v u a b Q I rx ry ra rb q=>by
 have hu:=hr.un
 cases b with
 |list ys=>
  obtain⟨as,e1⟩:=ra.reads I rx q.1.can;obtain⟨bs,e2⟩:=rb.reads I ry q.2.1.can;have:=q.1.deep;exact SeqAt.in_list_reads e2 e1 q.2.1.all q.1.can (by omega) ⟨.bl _,H,_,I,rfl,Same.refl _,.bl,q.2.2⟩
 |tuple ys=>
  obtain⟨as,e1⟩:=ra.reads I rx q.1.can;obtain⟨bs,e2⟩:=rb.reads I ry q.2.1.can;have:=q.1.deep;exact SeqAt.in_tuple_reads e2 e1 q.2.1.allT q.1.can (by omega) ⟨.bl _,H,_,I,rfl,Same.refl _,.bl,q.2.2⟩
 |_=>exact q.elim⟩
theorem zn2{k:Nat}(hr:Room k X.A):OpD X (compareOp .NotIn) (gIn true):=⟨λpins s σ H x y v u a b Q I rx ry ra rb q=>by
 have hu:=hr.un
 cases b with
 |list ys=>
  obtain⟨as,e1⟩:=ra.reads I rx q.1.can;obtain⟨bs,e2⟩:=rb.reads I ry q.2.1.can;have:=q.1.deep;exact SeqAt.notIn_list_reads e2 e1 q.2.1.all q.1.can (by omega) ⟨.bl _,H,_,I,rfl,Same.refl _,.bl,q.2.2⟩
 |tuple ys=>
  obtain⟨as,e1⟩:=ra.reads I rx q.1.can;obtain⟨bs,e2⟩:=rb.reads I ry q.2.1.can;have:=q.1.deep;exact SeqAt.notIn_tuple_reads e2 e1 q.2.1.allT q.1.can (by omega) ⟨.bl _,H,_,I,rfl,Same.refl _,.bl,q.2.2⟩
 |_=>exact q.elim⟩
end
structure CallD(X:Cx)(f:Value)(g:List D->(D->Prop)->Prop):Prop where
 run:∀(pins:List (Addr×Obj)) (s:Shared) (σ:St) (H:Hp) (vs:List V) (us:List Value) (ds:List D) (Q:D->Prop),Inv X pins σ H s->Vals vs us->RepTs X.K H ds vs->g ds Q->wpAny (model X.prog X.w) X.A (call f us) (DEnd X pins σ H Q) X.xe s
structure CallF(X:Cx)(f:Value)(g:List D->(List D->Prop)->Prop):Prop where
 run:∀(pins:List (Addr×Obj)) (s:Shared) (σ:St) (H:Hp) (vs:List V) (us:List Value) (ds:List D) (Q:List D->Prop),Inv X pins σ H s->Vals vs us->RepTs X.K H ds vs->g ds Q->wpAny (model X.prog X.w) X.A (call f us) (zdh X pins σ H Q) X.xe s
def dCB(g:List D->(D->Prop)->Prop)(t:DTF):DTE:=λσ Q=>t σ λds=>g ds Q
def dCF(g:List D->(List D->Prop)->Prop)(t:DTF):DTF:=λσ Q=>t σ λds=>g ds Q
section
variable {X:Cx}{f:Value}{g:List D->(D->Prop)->Prop}{gf:List D->(List D->Prop)->Prop}{e:Expr}{es:List Expr}{t:DTF}{x:Str}{p pos:Pos}
theorem CallD.of{r:List V->Hp->VK->Prop}(h:wy X f r)(k:∀vs H ds Q,RepTs X.K H ds vs->g ds Q->r vs H (λv H'=>∃d,Same H H'/\Rep X.K H' d v/\Q d)):CallD X f g :=
 ⟨λpins s σ H vs us ds Q I rv rd q=>thn (h pins s σ H vs us _ I rv (k vs H ds Q rd q)) λw s' zq93=>by obtain⟨z,H',I',rz,d,sm,rp,qd⟩:=zq93;exact⟨z,H',d,I',rz,sm,rp,qd⟩⟩
theorem CallF.of{r:List V->Hp->VK->Prop}(h:wy X f r)(k:∀vs H ds Q,RepTs X.K H ds vs->gf ds Q->r vs H (λv H'=>∃p vs xs,v=.ref p/\Same H H'/\H p=none/\H' p=some (.lst vs)/\Reps X.K H' xs vs/\Q xs)):CallF X f gf :=
 ⟨λpins s σ H vs us ds Q I rv rd q=>thn (h pins s σ H vs us _ I rv (k vs H ds Q rd q)) λw s' zq93=>by obtain⟨z,H',I',rz,p,ws,xs,ez,sm,n,e,rp,qd⟩:=zq93;exact⟨p,H',ws,xs,by subst ez;exact rz,I',sm,n,e,rp,qd⟩⟩
theorem CallD.cr(h:CallD X f g):wy X f (λvs H Q=>∃ds QD,RepTs X.K H ds vs/\g ds QD/\∀v H' d,Same H H'->Rep X.K H' d v->QD d->Q v H') :=
 λpins s σ H vs us Q I rv zq2=>by obtain⟨ds,QD,rd,q,k⟩:=zq2;exact thn (h.run pins s σ H vs us ds QD I rv rd q) λw s' zq0=>by obtain⟨z,H',d,I',rz,sm,rp,qd⟩:=zq0;exact⟨z,H',I',rz,k z H' d sm rp qd⟩
theorem CallF.cr(h:CallF X f gf):wy X f (λvs H Q=>∃ds QD,RepTs X.K H ds vs/\gf ds QD/\∀a H' ws xs,Same H H'->H a=none->H' a=some (.lst ws)->Reps X.K H' xs ws->QD xs->Q (.ref a) H') :=
 λpins s σ H vs us Q I rv zq2=>by obtain⟨ds,QD,rd,q,k⟩:=zq2;exact thn (h.run pins s σ H vs us ds QD I rv rd q) λw s' zq0=>by obtain⟨a,H',ws,xs,ew,I',sm,n,e,rp,qd⟩:=zq0;exact⟨.ref a,H',I',ew,k a H' ws xs sm n e rp qd⟩
theorem xb{id:String}(hc:CallD X (.builtin id) g)(hg:Gl X x)(hm:X.mg x=none)(hv:bootBuiltins x=some (.builtin id))(ha:DAv X (e::es) t)(hn:x ≠ "__name__" := by decide)(hdb:(x ==("__debug__" : Str))=false:=by decide)
  (he:starEach (e::es) X.env=(false,eval e X.env)::starEach es X.env:=by rfl) (hpl:(backTo pos (starEach es X.env)).any (·.1)=false:=by rfl):DE X (.Call (.Name x p) (e::es) [] pos) (dCB g t) :=
 DE.of (vm hc.cr hg hm hv ha.pa hn hdb he hpl) λσ H H₀ σD QD ok q=>⟨H₀,σD,_,ok,q,λvs H1 ds s1 r1 q1=>⟨ds,_,r1,q1,λv H' d s2 rp qd=>⟨d,s1.trans s2,rp,qd⟩⟩⟩
theorem zln{id:String}(hc:CallF X (.builtin id) gf)(hg:Gl X x)(hm:X.mg x=none)(hv:bootBuiltins x=some (.builtin id))(ha:DAv X (e::es) t)(hn:x ≠ "__name__" := by decide)(hdb:(x ==("__debug__" : Str))=false:=by decide)
  (he:starEach (e::es) X.env=(false,eval e X.env)::starEach es X.env:=by rfl) (hpl:(backTo pos (starEach es X.env)).any (·.1)=false:=by rfl):DF X (.Call (.Name x p) (e::es) [] pos) (dCF gf t) :=
 DF.of (vm hc.cr hg hm hv ha.pa hn hdb he hpl) λσ H H₀ σD QD ok q=>⟨H₀,σD,_,ok,q,λvs H1 ds s1 r1 q1=>⟨ds,_,r1,q1,λa H' ws xs s2 n e rp qd=>⟨a,ws,xs,rfl,s1.trans s2,s1.free n,e,rp,qd⟩⟩⟩
theorem y3{id:String}(hc:CallD X (.type id) g)(hg:Gl X x)(hm:X.mg x=none)(hv:bootBuiltins x=some (.type id))(ha:DAv X (e::es) t)(hn:x ≠ "__name__" := by decide)(hdb:(x ==("__debug__" : Str))=false:=by decide)
  (he:starEach (e::es) X.env=(false,eval e X.env)::starEach es X.env:=by rfl) (hpl:(backTo pos (starEach es X.env)).any (·.1)=false:=by rfl):DE X (.Call (.Name x p) (e::es) [] pos) (dCB g t) :=
 DE.of (zjn hc.cr hg hm hv ha.pa hn hdb he hpl) λσ H H₀ σD QD ok q=>⟨H₀,σD,_,ok,q,λvs H1 ds s1 r1 q1=>⟨ds,_,r1,q1,λv H' d s2 rp qd=>⟨d,s1.trans s2,rp,qd⟩⟩⟩
theorem RepTs.one{K:PySem.W.Frag}{H:Hp}{d:D}{vs:List V}(h:RepTs K H [d] vs):∃v,vs = [v]/\RepT K H d v:=by
 cases h with
 |cons r t=>cases t;exact⟨_,rfl,r⟩
theorem RepTs.two{K:PySem.W.Frag}{H:Hp}{d e:D}{vs:List V}(h:RepTs K H [d,e] vs):∃v w,vs = [v,w]/\RepT K H d v/\RepT K H e w:=by
 cases h with
 |cons r t=>cases t with
  |cons r2 t=>cases t;exact⟨_,_,rfl,r,r2⟩
def zqw:List D->(D->Prop)->Prop
 |[.str x],Q=>x.length<=sizeLine/\Q (.int x.length)
 |[.list xs],Q=>Q (.int xs.length)
 |[.tuple xs],Q=>Q (.int xs.length)
 |_,_=>False
theorem zb7:CallD X (.builtin "len") zqw:=CallD.of zk2 λvs H ds Q rd q=>by
 match ds,q,rd with
 |[.str x],q,rd=>
  obtain⟨v,rfl,r⟩:=rd.one
  cases r.str;exact⟨_,x.length,rfl,⟨q.1,rfl⟩,_,Same.refl _,.int,q.2⟩
 |[.list xs],q,rd=>
  obtain⟨v,rfl,r⟩:=rd.one;obtain⟨a,vs,rfl,h,r⟩:=r.list.sq;exact⟨_,xs.length,rfl,.inl ⟨vs,h,r.length⟩,_,Same.refl _,.int,q⟩
 |[.tuple xs],q,rd=>
  obtain⟨v,rfl,r⟩:=rd.one;obtain⟨a,vs,rfl,h,r⟩:=r.tuple;exact⟨_,xs.length,rfl,.inr ⟨vs,h,r.length⟩,_,Same.refl _,.int,q⟩
def zqx:List D->(D->Prop)->Prop
 |[.int i,.int j],Q=>Q (.int (min i j))
 |_,_=>False
def zqy:List D->(D->Prop)->Prop
 |[.int i,.int j],Q=>Q (.int (max i j))
 |_,_=>False
theorem zpd(hc:X.calm=true):CallD X (.builtin "min") zqx:=CallD.of (zjk hc) λvs H ds Q rd q=>by
 match ds,q,rd with
 |[.int i,.int j],q,rd=>
  obtain⟨v,w,rfl,r1,r2⟩:=rd.two
  cases r1.int
  cases r2.int;refine⟨i,j,rfl,_,Same.refl _,.int,?_⟩;have e:(if j<i then j else i)=min i j:=by split <;> omega
  rw[e];exact q
theorem zib(hc:X.calm=true):CallD X (.builtin "max") zqy:=CallD.of (zjj hc) λvs H ds Q rd q=>by
 match ds,q,rd with
 |[.int i,.int j],q,rd=>
  obtain⟨v,w,rfl,r1,r2⟩:=rd.two
  cases r1.int
  cases r2.int;refine⟨i,j,rfl,_,Same.refl _,.int,?_⟩;have e:(if j > i then j else i)=max i j:=by split <;> omega
  rw[e];exact q
def zqz:List D->(D->Prop)->Prop
 |[.int i],Q=>Q (.int i)
 |[.bool b],Q=>Q (.int (if b then 1 else 0))
 |_,_=>False
theorem zsz:CallD X (.type "int") zqz:=CallD.of zjl λvs H ds Q rd q=>by
 match ds,q,rd with
 |[.int i],q,rd=>
  obtain⟨v,rfl,r⟩:=rd.one
  cases r.int;exact .inl ⟨i,rfl,_,Same.refl _,.int,q⟩
 |[.bool i],q,rd=>
  obtain⟨v,rfl,r⟩:=rd.one
  cases r.bool;exact .inr ⟨i,rfl,_,Same.refl _,.int,q⟩
def zg3:List D->(D->Prop)->Prop
 |[.list xs],Q=>Q (.tuple xs)
 |[.tuple xs],Q=>Q (.tuple xs)
 |_,_=>False
theorem xx:CallD X (.type "tuple") zg3:=CallD.of zcy λvs H ds Q rd q=>by
 match ds,q,rd with
 |[.list xs],q,rd=>
  obtain⟨v,rfl,r⟩:=rd.one;obtain⟨a,vs,rfl,h,r⟩:=r.list.sq;exact⟨a,vs,rfl,.inl ⟨h,λl hl=>⟨_,zy hl _,.tup (SqT.of zm) (r.same (zy hl _)),q⟩⟩⟩
 |[.tuple xs],q,rd=>
  obtain⟨v,rfl,r⟩:=rd.one;obtain⟨a,vs,rfl,h,r⟩:=r.tuple;exact⟨a,vs,rfl,.inr ⟨h,_,Same.refl _,.tup h r,q⟩⟩
def v4:List D->Option (List Bool)
 |[]=>some []
 |.bool i::r=>(v4 r).map (i :: ·)
 |_::_=>none
theorem jw{K:PySem.W.Frag}{H:Hp}:∀{xs:List D}{vs:List V}{ns:List Bool},Reps K H xs vs->v4 xs=some ns->vs=ns.map V.bl
 |[],_,ns,r,e=>by cases r;simp[v4]at e;subst e;rfl
 |x::xs,_,ns,r,e=>by
  cases r with
  |cons r t=>
   cases x with
   |bool i=>
    simp only[v4,Option.map_eq_some_iff]at e;obtain⟨ms,e1,rfl⟩:=e
    cases r;rw[jw t e1];rfl
   |_=>simp[v4]at e
variable {a b:Expr}{ta tb:DTE}
def gIx:DOp
 |.list xs,.int i,Q=>∃d,atI xs i=some d/\Q d
 |.tuple xs,.int i,Q=>∃d,atI xs i=some d/\Q d
 |.str x,.int i,Q=>x.length<=sizeLine/\∃c,atI x.cps.toList i=some c/\Q (.str ⟨#[c]⟩)
 |_,_,_=>False
theorem zic{K:PySem.W.Frag}{H:Hp}{xs:List D}{vs:List V}{i:Int}{d:D}(r:Reps K H xs vs)(h:atI xs i=some d):∃v,atI vs i=some v/\Rep K H d v:=by
 unfold atI at h ⊢;rw[<-r.length]
 cases e:ixN xs.length i with
 |none=>rw[e]at h;cases h
 |some j=>
  rw[e]at h;exact r.get h
theorem xi(ha:DV X a ta)(hb:DE X b tb)(hs:zd6 b):DE X (.Subscript a b pos) (dOp gIx ta tb) :=
 DE.of (zaa zqf ha.pe hb.pe hs) λσ H H₀ σD QD ok q=>⟨H₀,σD,_,ok,q,λv H1 d s1 r1 q1=>⟨H₀,σD,_,ok.after s1,q1,λw H2 d2 s2 r2 q2=>by
  have r1:=r1.same s2;have sm:=s1.trans s2
  cases d2 with
  |int i=>
   cases r2
   cases d with
   |list xs=>
    obtain⟨l,vs,rfl,hl,r⟩:=r1.list.sq;obtain⟨d,e,q⟩:=q2;obtain⟨x,e1,e2⟩:=zic r e;exact .inl ⟨l,vs,i,x,rfl,rfl,hl,e1,d,sm,e2,q⟩
   |tuple xs=>
    obtain⟨l,vs,rfl,hl,r⟩:=r1.tuple;obtain⟨d,e,q⟩:=q2;obtain⟨x,e1,e2⟩:=zic r e;exact .inr (.inl ⟨l,vs,i,x,rfl,rfl,hl,e1,d,sm,e2,q⟩)
   |str x=>
    cases r1.str;obtain⟨hz,c,e,q⟩:=q2;exact .inr (.inr ⟨x,i,c,rfl,rfl,hz,e,_,sm,.str,q⟩)
   |_=>exact q2.elim
  |_=>cases d <;> exact q2.elim⟩⟩
abbrev DTO:=DSt->(Option Int->Prop)->Prop
structure DO(X:Cx)(e:Option Expr)(t:DTO):Prop where
 po:PO X e (λσ H Q=>∃H₀ σD QD,DOk X.K H₀ H σD σ/\t σD QD/\∀o H',Same H H'->QD o->Q o H')
def zee:DTO:=λ_ Q=>Q none
def zlo(t:DTE):DTO:=λσ Q=>t σ λd=>match d with
 |.int i=>Q (some i)
 |_=>False
theorem zn3:DO X none zee:=⟨λpins s σ H Q I zq40=>by obtain⟨H₀,σD,QD,ok,q,k⟩:=zq40;exact zno pins s σ H Q I (k none H (Same.refl _) q)⟩
theorem zef(h:DE X a ta):DO X (some a) (zlo ta):=⟨λpins s σ H Q I ⟨H₀,σD,QD,ok,q,k⟩=>znp h.pe pins s σ H Q I ⟨H₀,σD,_,ok,q,λv H1 d s1 r1 q1=>by
 cases d with
 |int i=>cases r1;exact⟨i,rfl,k _ _ s1 q1⟩
 |_=>exact q1.elim⟩⟩
def v5(xs:List D)(lo hi:Option Int):List D:=(xs.drop (HT.sIx xs.length 0 lo)).take (HT.sIx xs.length xs.length hi-HT.sIx xs.length 0 lo)
theorem Reps.cut{K:PySem.W.Frag}{H:Hp}{xs:List D}{vs:List V}(r:Reps K H xs vs)(lo hi:Option Int):Reps K H (v5 xs lo hi) (zcw vs lo hi):=by
 unfold v5 zcw;rw[<-r.length];exact(r.drop _).take _
variable {lo hi:Option Expr}{tl th:DTO}{p2:Pos}
theorem zn4:SlR X (λx lo hi H Q=>∃a xs,x=.ref a/\SqT X.K H a xs/\∀p H',Same H H'->SqT X.K H' p (zcw xs lo hi)->Q (.ref p) H'):=by
 intro pins s σ H x v vl vu lo hi sl Q I rx hs pl pu h;obtain⟨a,xs,rfl,hx,q⟩:=h
 by_cases hw:HT.sIx xs.length 0 lo=0/\HT.sIx xs.length xs.length hi=xs.length
 ·cases rx;obtain⟨its,r,ht,hz⟩:=I.tuple hx;have hlen:its.toArray.size=xs.length:=by rw[List.size_toArray];exact r.length.symm
  refine⟨"tuple",_,PyProof.Rows.slot_tuple_getitem.lookup,ht.typeIs,zju ht hs pl pu (by rw[hlen];exact hw.1) (by rw[hlen];exact hw.2) ⟨.ref a,H,I,rfl,q a H (Same.refl H) ?_⟩⟩;unfold zcw;rw[hw.1,hw.2,List.drop_zero,Nat.sub_zero,List.take_length];exact hx
 ·exact zqd pins s σ H (.ref a) v vl vu lo hi sl Q I rx hs pl pu ⟨a,xs,rfl,hx,hw,λp hp=>q p _ (zy hp _) (SqT.of zm)⟩
def dSl(te:DTE)(tl th:DTO):DTE:=λσ Q=>te σ λd=>tl σ λl=>th σ λu=>match d with
 |.list xs=>Q (.list (v5 xs l u))
 |.tuple xs=>Q (.tuple (v5 xs l u))
 |_=>False
theorem zlp(he:DV X e ta)(hl:DO X lo tl)(hu:DO X hi th):DE X (.Subscript e (.Slice lo hi none p2) pos) (dSl ta tl th):=⟨λpins s σ H H₀ σD Q I ok q=>by
 refine thn (zfl (SlR.or zh7 zn4) he.pe hl.po hu.po pins s σ H (λv H'=>(∃d,Same H H'/\Rep X.K H' d v/\Q d)\/∃p vs xs,v=.ref p/\Same H H'/\H p=none/\H' p=some (.lst vs)/\Reps X.K H' xs vs/\Q (.list xs)) I ?_) λu s' ⟨v,H',I',r,z⟩=>?_
 ·exact⟨H₀,σD,_,ok,q,λv H1 d s1 r1 q1=>⟨H₀,σD,_,ok.after s1,q1,λl H2 s2 q2=>⟨H₀,σD,_,(ok.after s1).after s2,q2,λu H3 s3 q3=>by
   cases d with
   |list xs=>
    obtain⟨b,vs,rfl,hb,r⟩:=((r1.same s2).same s3).list.sq;exact .inl ⟨b,vs,rfl,hb,λp hp=>.inr ⟨p,_,_,rfl,((s1.trans s2).trans s3).trans (zy hp _),((s1.trans s2).trans s3).free hp,zm,(r.cut l u).same (zy hp _),q3⟩⟩
   |tuple xs=>
    obtain⟨b,vs,rfl,hb,r⟩:=((r1.same s2).same s3).tuple;exact .inr ⟨b,vs,rfl,hb,λp H4 s4 e4=>.inl ⟨_,((s1.trans s2).trans s3).trans s4,.tup e4 ((r.cut l u).same s4),q3⟩⟩
   |_=>exact q3.elim⟩⟩⟩
 ·rcases z with⟨d,sm,rp,qd⟩ |⟨p,vs,xs,rfl,sm,n,e,rp,qd⟩
  ·exact⟨v,H',d,I',r,sm,rp,qd⟩
  ·obtain⟨H'',J,sm',r'⟩:=za5 I' sm n e rp;exact⟨.ref p,H'',.list xs,J,r,sm',r',qd⟩⟩
def zeg(i:Nat)(tl th:DTO):DTF:=λσ Q=>match σ[i]? with
 |some (some (.scr ns))=>tl σ λl=>th σ λu=>Q ((v5 (ns.map PyData.int) l u))
 |_=>False
theorem zq3(i:Nat){x:Str}{pos':Pos}(hl:DO X lo tl)(hu:DO X hi th)(hN:X.N[i]?=some x:=by rfl)(hv:Vis X.env.scope x:=by first|exact Or.inl rfl|exact Or.inr (Or.inl rfl)|exact Or.inr (Or.inr rfl))(hd:(x ==("__debug__" : Str))=false:=by decide)
  (hcd:(x ==("__classdict__" : Str))=false:=by decide):DF X (.Subscript (.Name x pos') (.Slice lo hi none p2) pos) (zeg i tl th) :=
 DF.of (zfl zh7 (x5 (i:=i) hN hv hd hcd) hl.po hu.po) λσ H H₀ σD QD ok q=>by
  unfold zeg at q
  split at q
  ·next ns e=>
   obtain⟨b,e1,hb⟩:=ok.scr e;exact⟨_,e1,H₀,σD,_,ok,q,λl H2 s2 q2=>⟨H₀,σD,_,ok.after s2,q2,λu H3 s3 q3=>⟨b,_,rfl,s3.seq (s2.seq hb),λp hp=>⟨p,_,_,rfl,(s2.trans s3).trans (zy hp _),(s2.trans s3).free hp,zm,Reps.ints.cut l u,q3⟩⟩⟩⟩
  ·exact q.elim
def zbu(i:Nat):DTE:=λσ Q=>match σ[i]? with
 |some (some (.scr ns))=>Q (.int ns.length)
 |_=>False
theorem zjv(i:Nat){x:Str}{pos':Pos}(hg:Gl X "len")(hm:X.mg "len" = none)(hN:X.N[i]?=some x:=by rfl)(hv:Vis X.env.scope x:=by first|exact Or.inl rfl|exact Or.inr (Or.inl rfl)|exact Or.inr (Or.inr rfl))(hd:(x ==("__debug__" : Str))=false:=by decide)
  (hcd:(x ==("__classdict__" : Str))=false:=by decide):DE X (.Call (.Name "len" p) [.Name x pos'] [] pos) (zbu i) :=
 DE.of (vm zd8 hg hm PySem.boot_len (yo (x5 (i:=i) hN hv hd hcd) xp)) λσ H H₀ σD QD ok q=>by
  unfold zbu at q
  split at q
  ·next ns e=>
   obtain⟨b,e1,hb⟩:=ok.scr e;exact⟨_,e1,b,_,rfl,.inl hb,_,Same.refl _,.int,by rw[List.length_map];exact q⟩
  ·exact q.elim
def zeh(i:Nat)(tb:DTE):DTE:=λσ Q=>match σ[i]? with
 |some (some (.scr ns))=>tb σ λd=>match d with
  |.int k=>∃n,atI ns k=some n/\Q (.int n)
  |_=>False
 |_=>False
theorem zn5{α β:Type}(f:α->β)(xs:List α)(i:Int):atI (xs.map f) i=(atI xs i).map f:=by
 unfold atI;rw[List.length_map]
 cases ixN xs.length i with
 |none=>rfl
 |some j=>simp
theorem zlq(i:Nat){x:Str}{pos':Pos}(hb:DE X b tb)(hs:zd6 b)(hN:X.N[i]?=some x:=by rfl)(hv:Vis X.env.scope x:=by first|exact Or.inl rfl|exact Or.inr (Or.inl rfl)|exact Or.inr (Or.inr rfl))(hd:(x ==("__debug__" : Str))=false:=by decide)
  (hcd:(x ==("__classdict__" : Str))=false:=by decide):DE X (.Subscript (.Name x pos') b pos) (zeh i tb) :=
 DE.of (zaa ix_list (x5 (i:=i) hN hv hd hcd) hb.pe hs) λσ H H₀ σD QD ok q=>by
  unfold zeh at q
  split at q
  ·next ns e=>
   obtain⟨b,e1,hb⟩:=ok.scr e;refine⟨_,e1,H₀,σD,_,ok,q,λw H2 d2 s2 r2 q2=>?_⟩
   cases d2 with
   |int k=>
    cases r2;obtain⟨n,en,q⟩:=q2;exact⟨b,_,k,.int n,rfl,rfl,s2.seq hb,by rw[zn5,en];rfl,_,s2,.int,q⟩
   |_=>exact q2.elim
  ·exact q.elim
end
structure ItOk(K:PySem.W.Frag)(Kp:Hp->Hp->Prop)(J:It)(H1:Hp)(ds:List D):Prop where
 go:∀H i d,Kp H1 H->ds[i]?=some d->J.go i H/\∀x H',J.yld i H x H'->Same H H'/\Rep K H' d x
 stop:∀H,Kp H1 H->J.stop ds.length H
theorem ItOk.weak{K:PySem.W.Frag}{J:It}{H1:Hp}{ds:List D}(h:ItOk K Pers J H1 ds):ItOk K Same J H1 ds:=⟨λH i d s=>h.go H i d s.pers,λH s=>h.stop H s.pers⟩
def cnI(K:PySem.W.Frag)(Kp:Hp->Hp->Prop)(t:DTF):TI:=λσ H R=>∃H₀ σD QD,DOk K H₀ H σD σ/\t σD QD/\∀J H1 ds,Same H H1->ItOk K Kp J H1 ds->QD ds->R J H1
structure DI(X:Cx)(tg iter:Expr)(t:DTF):Prop where
 pi:PI X tg iter (cnI X.K Pers t)
structure DIw(X:Cx)(tg iter:Expr)(t:DTF):Prop where
 pi:PI X tg iter (cnI X.K Same t)
section
variable {X:Cx}{tg iter e:Expr}{t:DTF}{te:DTE}{p pos:Pos}
theorem DI.w(h:DI X tg iter t):DIw X tg iter t:=⟨λpins s σ H R I zq56=>by obtain⟨H₀,σD,QD,ok,q,k⟩:=zq56;exact h.pi pins s σ H R I ⟨H₀,σD,QD,ok,q,λJ H1 ds s1 o qd=>k J H1 ds s1 o.weak qd⟩⟩
theorem zlr{l:Expr}{tl:TE}(hl:PE X l tl):PI X tg l (λσ H R=>tl σ H λx H1=>(∃a xs,x=.ref a/\SqL X.K H1 a xs/\R (Itl X.K a) H1)\/∃a xs,x=.ref a/\SqT X.K H1 a xs/\R (Itt X.K a) H1):=by
 intro pins s σ H R I h;refine thn (hl pins s σ H _ I h) λv s1 ⟨x,H1,I1,r1,q1⟩=>?_;rcases q1 with⟨a,xs,e,hq,q⟩ |⟨a,xs,e,hq,q⟩
 ·subst e
  cases r1;obtain⟨its,rv,p,hz⟩:=I1.list hq;refine wpAny_pyIter_list p.isList ?_;refine⟨s1.heap.objs.size,[s1.heap.objs.size],_,_,H1,rfl,I1.kept (t':=s1.toks) λb o e=>Heap.get?_push_of_some _ e,zjg a _,⟨_,Heap.get?_push_size _ rfl,rfl,rfl⟩,λb hb=>?_,q⟩;have e:b=s1.heap.objs.size:=by simpa using hb
  subst e;exact I1.fpOk (Nat.le_refl _) (I1.hok.fresh (Nat.le_refl _))
 ·subst e
  cases r1;obtain⟨its,rv,p,hz⟩:=I1.tuple hq;refine wpAny_pyIter_tuple (show s1.heap.IsTuple a its.toArray from p) ?_;refine⟨s1.heap.objs.size,[s1.heap.objs.size],_,_,H1,rfl,I1.kept (t':=s1.toks) λb o e=>Heap.get?_push_of_some _ e,zgo a _,⟨_,Heap.get?_push_size _ rfl,rfl,rfl⟩,λb hb=>?_,q⟩;have e:b=s1.heap.objs.size:=by simpa using hb
  subst e;exact I1.fpOk (Nat.le_refl _) (I1.hok.fresh (Nat.le_refl _))
def zid(te:DTE):DTF:=λσ Q=>te σ λd=>match d with
 |.list xs=>Q xs
 |.tuple xs=>Q xs
 |_=>False
theorem zls{K:PySem.W.Frag}{Kp:Hp->Hp->Prop}{H1:Hp}{a:Addr}{xs:List D}{vs:List V}(kp:∀H,Kp H1 H->SqL K H a vs/\Reps K H xs vs):ItOk K Kp (Itl K a) H1 xs where
 go:=λH i d k e=>by
  obtain⟨hs,r⟩:=kp H k;obtain⟨v,e1,r1⟩:=r.get e;refine⟨⟨vs,v,hs,e1⟩,λx H' y=>?_⟩;obtain⟨rfl,y⟩:=y;have:=y vs hs;rw[e1]at this
  cases this;exact⟨Same.refl _,r1⟩
 stop:=λH k=>by
  obtain⟨hs,r⟩:=kp H k;exact⟨vs,hs,by rw[r.length];exact Nat.le_refl _⟩
theorem zlt{K:PySem.W.Frag}{Kp:Hp->Hp->Prop}{H1:Hp}{a:Addr}{xs:List D}{vs:List V}(kp:∀H,Kp H1 H->SqT K H a vs/\Reps K H xs vs):ItOk K Kp (Itt K a) H1 xs where
 go:=λH i d k e=>by
  obtain⟨hs,r⟩:=kp H k;obtain⟨v,e1,r1⟩:=r.get e;refine⟨⟨vs,v,hs,e1⟩,λx H' y=>?_⟩;obtain⟨rfl,y⟩:=y;have:=y vs hs;rw[e1]at this
  cases this;exact⟨Same.refl _,r1⟩
 stop:=λH k=>by
  obtain⟨hs,r⟩:=kp H k;exact⟨vs,hs,by rw[r.length];exact Nat.le_refl _⟩
theorem Pers.sqF{K:PySem.W.Frag}{H H':Hp}{a:Addr}{o:Obj}{vs:List V}(p:Pers H H')(h:H a=some (.frz o (.lst vs))):SqL K H' a vs:=.inl (.inr ⟨o,p _ _ h rfl⟩)
theorem v6(h:DE X e te):DI X tg e (zid te):=⟨λpins s σ H R I ⟨H₀,σD,QD,ok,q,k⟩=>zlr h.pe pins s σ H R I ⟨H₀,σD,_,ok,q,λv H1 d s1 r1 q1=>by
 cases d with
 |list xs=>
  cases r1 with
  |lst hf r=>exact .inl ⟨_,_,rfl,.inl (.inr ⟨_,hf⟩),k _ _ xs s1 (zls λH' pr=>⟨pr.sqF hf,r.mono pr⟩) q1⟩
 |tuple xs=>
  cases r1 with
  |tup hf r=>exact .inr ⟨_,_,rfl,hf,k _ _ xs s1 (zlt λH' pr=>⟨pr.sqT hf,r.mono pr⟩) q1⟩
 |_=>exact q1.elim⟩⟩
theorem RepL.sq'{K:PySem.W.Frag}{H H':Hp}{a:Addr}{vs:List V}(s:Same H H')(h:Rd H a (.lst vs)):SqL K H' a vs:=by
 rcases h with h |⟨o,h⟩
 ·exact .inl (.inl (s _ _ h))
 ·exact .inl (.inr ⟨o,s _ _ h⟩)
theorem ja(h:DV X e te):DIw X tg e (zid te):=⟨λpins s σ H R I ⟨H₀,σD,QD,ok,q,k⟩=>zlr h.pe pins s σ H R I ⟨H₀,σD,_,ok,q,λv H1 d s1 r1 q1=>by
 cases d with
 |list xs=>
  obtain⟨a,vs,rfl,hf,r⟩:=r1.list;exact .inl ⟨_,_,rfl,.inl hf,k _ _ xs s1 (zls λH' pr=>⟨RepL.sq' pr hf,r.same pr⟩) q1⟩
 |tuple xs=>
  obtain⟨a,vs,rfl,hf,r⟩:=r1.tuple;exact .inr ⟨_,_,rfl,hf,k _ _ xs s1 (zlt λH' pr=>⟨pr.pers.sqT hf,r.same pr⟩) q1⟩
 |_=>exact q1.elim⟩⟩
def xq(lo:Int)(n:Nat):List D:=(List.range n).map λi=>.int (lo+(i:Nat))
theorem zq4{K:PySem.W.Frag}{Kp:Hp->Hp->Prop}{H1:Hp}(lo:Int)(n:Nat):ItOk K Kp (Itr lo n) H1 (xq lo n) where
 go:=λH i d k e=>by
  have hi:i<n:=by have:=(List.getElem?_eq_some_iff.mp e).1;simpa[xq]using this
  refine⟨hi,λx H' y=>?_⟩;obtain⟨rfl,rfl⟩:=y;refine⟨Same.refl _,?_⟩;simp[xq,List.getElem?_map,List.getElem?_range hi]at e;subst e;exact .int
 stop:=λH k=>by
  show n<=(xq lo n).length;simp[xq]
def zei(ta:DTF):DTF:=λσ Q=>ta σ λds=>match ds with
 |[.int j]=>(-(2 ^ 62)<=j/\j<2 ^ 62)/\Q (xq 0 j.toNat)
 |_=>False
variable {a b:Expr}
theorem x8(hg:Gl X "range")(hm:X.mg "range" = none)(ha:DA X [a] t)(hs:starEach [a] X.env = [(false,eval a X.env)]:=by rfl):DI X tg (.Call (.Name "range" p) [a] [] pos) (zei t) :=
 ⟨λpins s σ H R I ⟨H₀,σD,QD,ok,q,k⟩=>zjh hg hm ha.pa hs pins s σ H R I ⟨H₀,σD,_,ok,q,λvs H1 ds s1 r1 q1=>by
  match ds,r1,q1 with
  |[.int j],r1,q1=>
   cases r1 with
   |cons r t=>
    cases t
    cases r;exact⟨j,rfl,q1.1.1,q1.1.2,k _ _ _ s1 (zq4 0 j.toNat) q1.2⟩⟩⟩
def qz(xs ys:List D):List D:=List.zipWith (λa b=>.tuple [a,b]) xs ys
theorem zn6{elts:List Expr}{x1}{tpos:Pos}{ta:TA}(hg:Gl X "zip")(hm:X.mg "zip" = none)(ha:PA X [a,b] ta)(hb:bootBuiltins "zip" = some (.type "zip"):=by first|exact boot_zip|rfl|decide +kernel)(hs:starEach [a,b] X.env = [(false,eval a X.env),(false,eval b X.env)]:=by rfl)(hs2:starEach [b] X.env = [(false,eval b X.env)]:=by rfl):
  PI X (.Tuple elts x1 tpos) (.Call (.Name "zip" p) [a,b] [] pos) (λσ H R=>ta σ H λvs H1=>∃b1 b2 a b,vs = [.ref a,.ref b]/\(∃xs,SqG b1 X.K H1 a xs)/\(∃ys,SqG b2 X.K H1 b ys)/\R (Izg b1 b2 X.K a b) H1):=by
 intro pins s σ H R I h;refine Call_ (jo I hg hm hb (PyProof.Rows.callWith_type1 (thn (ha pos pins s σ H _ I h) λus s1 ⟨vs,H1,I1,r1,q1⟩=>?_) (by rw[hs,hs2]) (by rw[hs2];rfl)));obtain⟨b1,b2,l1,l2,e,⟨xs,hq1⟩,⟨ys,hq2⟩,q⟩:=q1;subst e;obtain⟨v1,v2,rfl,r1',r2'⟩:=r1.two
 cases r1'
 cases r2';obtain⟨its1,rv1,p1,hz1⟩:=I1.sqG hq1;obtain⟨its2,rv2,p2,hz2⟩:=I1.sqG hq2;refine zjs p1 p2 λh' hz hTI hTO hi1 hi2 hk=>wpAny_pyIter_zip hz ?_;have I2:Inv X pins σ H1 { s1 with heap:=h' }:=I1.kept (t':=s1.toks) hk;refine⟨_,[s1.heap.objs.size+4,s1.heap.objs.size+2,s1.heap.objs.size+3,s1.heap.objs.size,s1.heap.objs.size+1],_,_,H1,rfl,I2,zjt (zipApart_new p1.lt p2.lt),⟨hz,hTI,⟨_,_,hTO⟩,hi1,hi2⟩,λb hb=>?_,q⟩;have hb':s1.heap.objs.size<=b:=by
  simp only[List.mem_cons,List.not_mem_nil,or_false]at hb;rcases hb with rfl|rfl|rfl|rfl|rfl <;> omega
 exact I1.fpOk hb' (I1.hok.fresh hb')
theorem zq5{K:PySem.W.Frag}{Kp:Hp->Hp->Prop}{H1:Hp}{b1 b2:Bool}{l m:Addr}{xs ys:List D}{vs ws:List V}(kp:∀H,Kp H1 H->(SqG b1 K H l vs/\Reps K H xs vs)/\SqG b2 K H m ws/\Reps K H ys ws):ItOk K Kp (Izg b1 b2 K l m) H1 (qz xs ys) where
 go:=λH i d k e=>by
  obtain⟨⟨h1,r1⟩,h2,r2⟩:=kp H k;unfold qz at e;rw[List.getElem?_zipWith]at e
  cases ex:xs[i]? with
  |none=>rw[ex]at e;cases e
  |some x=>
   cases ey:ys[i]? with
   |none=>rw[ex,ey]at e;cases e
   |some y=>
    rw[ex,ey]at e
    cases e;obtain⟨v,e1,q1⟩:=r1.get ex;obtain⟨w,e2,q2⟩:=r2.get ey;refine⟨⟨vs,ws,v,w,h1,h2,e1,e2⟩,λz H' yl=>?_⟩;obtain⟨p,v',w',hp,rfl,rfl,y1,y2⟩:=yl;have z1:=y1 vs h1;have z2:=y2 ws h2;rw[e1]at z1;rw[e2]at z2
    cases z1
    cases z2;exact⟨zy hp _,.tup (SqT.of zm) (.cons (q1.same (zy hp _)) (.cons (q2.same (zy hp _)) .nil))⟩
 stop:=λH k=>by
  obtain⟨⟨h1,r1⟩,h2,r2⟩:=kp H k;refine⟨vs,ws,h1,h2,?_⟩;unfold qz;rw[List.length_zipWith,<-r1.length,<-r2.length];omega
def zq6(t:DTF):DTF:=λσ Q=>t σ λds=>match ds with
 |[.list xs,.list ys]=>Q (qz xs ys)
 |[.list xs,.tuple ys]=>Q (qz xs ys)
 |[.tuple xs,.list ys]=>Q (qz xs ys)
 |[.tuple xs,.tuple ys]=>Q (qz xs ys)
 |_=>False
theorem Rep.seqP{K:PySem.W.Frag}{H:Hp}{d:D}{v:V}{xs:List D}(h:Rep K H d v)(e:d=.list xs\/d=.tuple xs):∃b a vs,v=.ref a/\∀H',Pers H H'->SqG b K H' a vs/\Reps K H' xs vs:=by
 cases h with
 |lst hf r=>
  rcases e with e|e
  ·cases e;exact⟨false,_,_,rfl,λH' p=>⟨p.sqF hf,r.mono p⟩⟩
  ·cases e
 |tup hf r=>
  rcases e with e|e
  ·cases e
  ·cases e;exact⟨true,_,_,rfl,λH' p=>⟨p.sqT hf,r.mono p⟩⟩
 |_=>rcases e with e|e <;> cases e
theorem zjw {ds:List D}{Q:List D->Prop} (h:match ds with
 |[.list xs,.list ys]=>Q (qz xs ys)
 |[.list xs,.tuple ys]=>Q (qz xs ys)
 |[.tuple xs,.list ys]=>Q (qz xs ys)
 |[.tuple xs,.tuple ys]=>Q (qz xs ys)
 |_=>False):∃d1 d2 xs ys,ds = [d1,d2]/\(d1=.list xs\/d1=.tuple xs)/\(d2=.list ys\/d2=.tuple ys)/\Q (qz xs ys):=by
 split at h
 ·exact⟨_,_,_,_,rfl,.inl rfl,.inl rfl,h⟩
 ·exact⟨_,_,_,_,rfl,.inl rfl,.inr rfl,h⟩
 ·exact⟨_,_,_,_,rfl,.inr rfl,.inl rfl,h⟩
 ·exact⟨_,_,_,_,rfl,.inr rfl,.inr rfl,h⟩
 ·exact h.elim
theorem zq8{elts:List Expr}{x1}{tpos:Pos}(hg:Gl X "zip")(hm:X.mg "zip" = none)(ha:DA X [a,b] t)(hs:starEach [a,b] X.env = [(false,eval a X.env),(false,eval b X.env)]:=by rfl)(hs2:starEach [b] X.env = [(false,eval b X.env)]:=by rfl):
  DI X (.Tuple elts x1 tpos) (.Call (.Name "zip" p) [a,b] [] pos) (zq6 t) :=
 ⟨λpins s σ H R I ⟨H₀,σD,QD,ok,q,k⟩=>zn6 hg hm ha.pa (by first|exact boot_zip|rfl|decide +kernel) hs hs2 pins s σ H R I ⟨H₀,σD,_,ok,q,λvs H1 ds s1 r1 q1=>by
  obtain⟨d1,d2,xs,ys,rfl,e1,e2,q2⟩:=zjw q1
  cases r1 with
  |cons r t=>cases t with
   |cons r2 t=>
    cases t;obtain⟨b1,l,vs,rfl,k1⟩:=r.seqP e1;obtain⟨b2,m,ws,rfl,k2⟩:=r2.seqP e2;exact⟨b1,b2,l,m,rfl,⟨vs,(k1 _ (Pers.refl _)).1⟩,⟨ws,(k2 _ (Pers.refl _)).1⟩,k _ _ _ s1 (zq5 λH' pr=>⟨k1 H' pr,k2 H' pr⟩) q2⟩⟩⟩
abbrev DTG:=D->DSt->(DSt->Prop)->Prop
abbrev zej:=List D->DSt->(DSt->Prop)->Prop
structure DG(X:Cx)(tg:Expr)(is:List Nat)(g:DTG):Prop where
 run:∀(pins:List (Addr×Obj)) (s:Shared) (σ:St) (H H₀:Hp) (σD:DSt) (v:V) (u:Value) (d:D) (Q:DSt->Prop),Inv X pins σ H s->DOk X.K H₀ H σD σ->RelV v u->Rep X.K H d v->g d σD Q ->
  wpAny (model X.prog X.w) X.A (assign tg X.env u) (λ_ s'=>∃σ' σD',Inv X pins σ' H s'/\DOk X.K H₀ H σD' σ'/\(∀j,j∉is->σ'[j]?=σ[j]?)/\Q σD') X.xe s
structure DGs(X:Cx)(ts:List Expr)(is:List Nat)(g:zej):Prop where
 run:∀(pins:List (Addr×Obj)) (s:Shared) (σ:St) (H H₀:Hp) (σD:DSt) (vs:List V) (us:List Value) (ds:List D) (Q:DSt->Prop),Inv X pins σ H s->DOk X.K H₀ H σD σ->Vals vs us->Reps X.K H ds vs->g ds σD Q ->
  wpAny (model X.prog X.w) X.A (assignInOrder ((assignEach ts X.env).map (·.2)) us) (λ_ s'=>∃σ' σD',Inv X pins σ' H s'/\DOk X.K H₀ H σD' σ'/\(∀j,j∉is->σ'[j]?=σ[j]?)/\Q σD') X.xe s
def zek(i:Nat):DTG:=λd σ Q=>Q (σ.set i (some (.val d)))
theorem zn{i:Nat}{x:Str}(hN:X.N.Nodup)(hi:X.N[i]?=some x)(hx:Loc X.env.scope x)(hf:X.fn x=true\/X.env.scope.names.lookup x=some .local:=by first|exact .inl rfl|exact .inr rfl|assumption):DG X (.Name x pos) [i] (zek i) :=
 ⟨λpins s σ H H₀ σD v u d Q I ok r rp q=>wpAny_assign_Name (kc I hN hi hx r (λs' I'=>⟨_,_,I',ok.setV rp i,λj hj=>List.getElem?_set_ne (λz=>hj (by simp[z])),q⟩) hf)⟩
def zie:zej:=λds σ Q=>ds = []/\Q σ
def zel(g:DTG)(gs:zej):zej:=λds σ Q=>match ds with
 |d::r=>g d σ λσ'=>gs r σ' Q
 |[]=>False
theorem y8:DGs X [] [] zie:=⟨λpins s σ H H₀ σD vs us ds Q I ok r rp q=>by
 obtain⟨rfl,q⟩:=q
 cases rp
 cases r;exact assignInOrder_nil ⟨σ,σD,I,ok,λ_ _=>rfl,q⟩⟩
theorem zp{e:Expr}{es:List Expr}{i1 i2:List Nat}{g:DTG}{gs:zej}(h1:DG X e i1 g)(h2:DGs X es i2 gs)
  (hs:(assignEach (e::es) X.env).map (·.2)=assign e X.env::(assignEach es X.env).map (·.2):=by rfl):DGs X (e::es) (i1++i2) (zel g gs):=⟨λpins s σ H H₀ σD vs us ds Q I ok r rp q=>by
 cases rp with
 |nil=>exact q.elim
 |cons rd rds=>
  cases r with
  |cons r rr=>
   rw[hs];refine assignInOrder_cons (thn (h1.run pins s σ H H₀ σD _ _ _ _ I ok r rd q) λ_ s1 ⟨σ1,σD1,I1,ok1,f1,q1⟩=>?_);refine thn (h2.run pins s1 σ1 H H₀ σD1 _ _ _ Q I1 ok1 rr rds q1) λ_ s2 ⟨σ2,σD2,I2,ok2,f2,q2⟩=>⟨σ2,σD2,I2,ok2,λj hj=>?_,q2⟩
   rw[f2 j (λz=>hj (List.mem_append_right _ z)),f1 j (λz=>hj (List.mem_append_left _ z))]⟩
def zlu(n:Nat)(gs:zej):DTG:=λd σ Q=>match d with
 |.tuple xs=>xs.length=n/\gs xs σ Q
 |_=>False
theorem zq9{es:List Expr}{k:Nat}{is:List Nat}{gs:zej}{n:Nat}(hc:X.calm=true)(h:DGs X es is gs)(hn:(assignEach es X.env).length=n:=by rfl)(hst:(assignEach es X.env).findIdx? (·.1)=none:=by rfl):DG X (.Tuple es k pos) is (zlu n gs):=⟨λpins s σ H H₀ σD v u d Q I ok r rp q=>by
 cases d with
 |tuple xs=>
  obtain⟨hl,q⟩:=q
  cases rp with
  |tup hq rr=>
   cases r;obtain⟨its,rv,ht,hz⟩:=I.tuple hq;refine assign_Tuple_tuple (I.ok.hd hc) ht (by simp[hn,<-hl,<-rv.length,rr.length]) hst λh' hx=>?_;have I1:Inv X pins σ H { s with heap:=h' }:=I.kept (t':=s.toks) λb o e=>hx b o (Nat.ne_of_lt (Heap.lt_size e)) e;exact h.run pins _ σ H H₀ σD _ _ xs Q I1 ok (by simpa using rv) rr q
 |_=>exact q.elim⟩
def lcD(f:D->(Option D->Prop)->Prop):List D->(List D->Prop)->Prop
 |[],Q=>Q []
 |d::ds,Q=>f d λo=>lcD f ds λys=>Q (match o with|some y=>y::ys|none=>ys)
def zfr:Option W->Option W
 |some (.own (.lst xs))=>some (.vw xs)
 |some (.own (.dct xs))=>some (.vd xs)
 |some (.own (.nst _ _))=>none
 |some (.own (.anc _ _))=>none
 |some (.own (.ins _ _))=>none
 |some (.own (.mix _))=>none
 |some (.tmp _)=>none
 |w=>w
def xc(k:Nat)(js:List Nat)(σ:DSt):DSt:=List.replicate k none++js.map λj=>zfr (σ[j]?).join
def lcF(g:DTG)(tt:DTT)(te:DTE)(σ0:DSt):D->(Option D->Prop)->Prop:=λd k=>g d σ0 λσ2=>tt σ2 λb=>if b=true then te σ2 λy=>k (some y) else k none
def dLC(k:Nat)(js:List Nat)(ti:DTF)(g:DTG)(tt:DTT)(te:DTE):DTF:=λσ Q=>ti σ λds=>ds.length<=sizeLine/\lcD (lcF g tt te (xc k js σ)) ds Q
structure DTs(X:Cx)(ifs:List Expr)(t:DTT):Prop where
 pts:PTs X ifs (cnT X.K t)
def zlv:DTT:=λ_ Q=>Q true
theorem zae:DTs X [] zlv:=⟨λpins s σ H Q I zq37=>by obtain⟨H₀,σD,QD,ok,q,k⟩:=zq37;exact zns pins s σ H Q I (k true H (Same.refl _) q)⟩
theorem v7{c:Expr}{t:DTT}(h:DT X c t):DTs X [c] t:=⟨znt h.pt⟩
theorem Slots.keepN{K:PySem.W.Frag}{H₀ H:Hp}{σD:DSt}{σ:St}{fp:List Addr}(h:Slots K H₀ H σD σ fp):∀{σ':St},σ'.length=σ.length->(∀j:Nat,σD[j]?=some Option.none\/σ'[j]?=σ[j]?)->Slots K H₀ H σD σ' fp:=by
 induction h with
 |nil=>intro σ' hl _;cases σ' with
  |nil=>exact .nil
  |cons _ _=>simp at hl
 |none t ih=>
  intro σ' hl k
  cases σ' with
  |nil=>simp at hl
  |cons x σ'=>exact .none (ih (by simpa using hl) λj=>by simpa using k (j+1))
 |val r t ih=>
  intro σ' hl k
  cases σ' with
  |nil=>simp at hl
  |cons x σ'=>
   have:=k 0;simp at this;subst this;exact .val r (ih (by simpa using hl) λj=>by simpa using k (j+1))
 |vw r t ih=>
  intro σ' hl k
  cases σ' with
  |nil=>simp at hl
  |cons x σ'=>
   have:=k 0;simp at this;subst this;exact .vw r (ih (by simpa using hl) λj=>by simpa using k (j+1))
 |vd r t ih=>
  intro σ' hl k
  cases σ' with
  |nil=>simp at hl
  |cons x σ'=>
   have:=k 0;simp at this;subst this;exact .vd r (ih (by simpa using hl) λj=>by simpa using k (j+1))
 |exc r t ih=>
  intro σ' hl k
  cases σ' with
  |nil=>simp at hl
  |cons x σ'=>
   have:=k 0;simp at this;subst this;exact .exc r (ih (by simpa using hl) λj=>by simpa using k (j+1))
 |scr r t ih=>
  intro σ' hl k
  cases σ' with
  |nil=>simp at hl
  |cons x σ'=>
   have:=k 0;simp at this;subst this;exact .scr r (ih (by simpa using hl) λj=>by simpa using k (j+1))
 |pen r t ih=>
  intro σ' hl k
  cases σ' with
  |nil=>simp at hl
  |cons x σ'=>
   have:=k 0;simp at this;subst this;exact .pen r (ih (by simpa using hl) λj=>by simpa using k (j+1))
 |tmp r t ih=>
  intro σ' hl k
  cases σ' with
  |nil=>simp at hl
  |cons x σ'=>
   have:=k 0;simp at this;subst this;exact .tmp r (ih (by simpa using hl) λj=>by simpa using k (j+1))
 |own r t ih=>
  intro σ' hl k
  cases σ' with
  |nil=>simp at hl
  |cons x σ'=>
   have:=k 0;simp at this;subst this;exact .own r (ih (by simpa using hl) λj=>by simpa using k (j+1))
theorem DOk.keepN{K:PySem.W.Frag}{H₀ H:Hp}{σD:DSt}{σ σ':St}(h:DOk K H₀ H σD σ)(hl:σ'.length=σ.length)(k:∀j:Nat,σD[j]?=some Option.none\/σ'[j]?=σ[j]?):DOk K H₀ H σD σ':=let ⟨s,fp,sl,r⟩:=h;⟨s,fp,sl.keepN hl k,r⟩
theorem DOk.block{K:PySem.W.Frag}{H₀ H:Hp}{σD:DSt}{σ:St}(h:DOk K H₀ H σD σ)(k:Nat)(js:List Nat):DOk K H H (xc k js σD) (yt k js σ):=by
 refine⟨Same.refl _,[],?_,List.nodup_nil,λa ha=>by cases ha⟩;have two:∀js:List Nat,Slots K H H (js.map λj=>zfr (σD[j]?).join) (js.map λj=>(σ[j]?).join) []:=by
  intro js
  induction js with
  |nil=>exact .nil
  |cons j js ih=>
   simp only[List.map_cons];have nn:∀v,Slots K H H (none::js.map λj=>zfr (σD[j]?).join) (v::js.map λj=>(σ[j]?).join) []:=λv=>.none ih
   cases e:σD[j]? with
   |none=>exact nn _
   |some o=>
    cases o with
    |none=>exact nn _
    |some w=>
     cases w with
     |val d=>
      obtain⟨v,e1,r⟩:=h.val e;rw[e1];exact .val r ih
     |vw xs=>
      obtain⟨v,e1,r⟩:=h.vw e;rw[e1];exact .vw r ih
     |vd xs=>
      obtain⟨v,e1,r⟩:=h.vd e;rw[e1];exact .vd r ih
     |exc xs=>
      obtain⟨v,e1,r⟩:=h.exc e;rw[e1];exact .exc r ih
     |scr ns=>
      obtain⟨a,e1,r⟩:=h.scr e;rw[e1];exact .scr r ih
     |pen=>
      obtain⟨a,e1,r⟩:=h.pen e;rw[e1];exact .pen r ih
     |tmp d=>exact nn _
     |own o=>
      cases o with
      |lst xs=>
       obtain⟨a,vs,e1,e2,r,_⟩:=h.ownL e;rw[e1];exact .vw ⟨a,vs,rfl,.inl e2,r⟩ ih
      |dct xs=>
       obtain⟨a,vs,e1,e2,r,_⟩:=h.ownD e;rw[e1];exact .vd ⟨a,vs,rfl,e2,r⟩ ih
      |nst xss ds=>exact nn _
      |anc _ _=>exact nn _
      |ins _ _=>exact nn _
      |mix _=>exact nn _
 unfold xc yt
 induction k with
 |zero=>exact two js
 |succ k ih=>exact .none ih
theorem zfs{g:DTG}{tt:DTT}{te:DTE}{k:Nat}{js is:List Nat}{σ:St}{σD:DSt}{H₀ H1:Hp}{J:It}{ds:List D}{QD:List D->Prop}{Dd:Addr}{gL:TG}(ok:DOk X.K H₀ H1 σD σ)(it:ItOk X.K Same J H1 ds)(hz:ds.length<=sizeLine)
  (hg:∀d v σ' H' Q (σ0:DSt),DOk X.K H1 H' σ0 σ'->Rep X.K H' d v->g d σ0 Q->gL v σ' H' (λσ2 H2=>H2=H'/\σ2.length=σ'.length/\(∀j,j∉is->σ2[j]?=σ'[j]?)/\∃σD2,DOk X.K H1 H' σD2 σ2/\Q σD2))
  (mono:∀v σ' H' (Q Q':St->Hp->Prop),(∀σ2 H2,Q σ2 H2->Q' σ2 H2)->gL v σ' H' Q->gL v σ' H' Q')
  (his:∀j∈is,j<k) (hn:H1 Dd=none) (q:lcD (lcF g tt te (xc k js σD)) ds QD) :
  zea J Dd gL (cnT X.K tt) (cnE X.K te) (yt k js σ) H1 (λv H'=>∃a vs xs,v=.ref a/\Same H1 H'/\H1 a=none/\H' a=some (.lst vs)/\Reps X.K H' xs vs/\QD xs):=by
 have sub:∀{Q1:List D->Prop}{i:Nat}{d:D},ds[i]?=some d->lcD (lcF g tt te (xc k js σD)) (ds.drop i) Q1=lcF g tt te (xc k js σD) d (λo=>lcD (lcF g tt te (xc k js σD)) (ds.drop (i+1)) λys=>Q1 (match o with|some y=>y::ys|none=>ys)):=λ{Q1 i d} e=>by
  obtain⟨hi,e'⟩:=List.getElem?_eq_some_iff.mp e;rw[List.drop_eq_getElem_cons hi,e'];rfl
 refine⟨λi m σ' H'=>m=ds.length-i/\i<=ds.length/\Same H1 H'/\σ'.length=(yt k js σ).length/\(∀j,k<=j->σ'[j]?=(yt k js σ)[j]?)/\∃acc vs,H' Dd=some (.lst vs)/\Reps X.K H' acc vs/\acc.length<=i/\lcD (lcF g tt te (xc k js σD)) (ds.drop i) (λys=>QD (acc++ys)),
  ⟨ds.length,rfl,Nat.zero_le _,zy hn _,rfl,λ_ _=>rfl,[],[],zm,.nil,Nat.le_refl _,q⟩,?_⟩
 rintro i m σ' H' ⟨rfl,hi,sm,hl,fr,acc,vs,eD,ra,la,q1⟩;have ok1:DOk X.K H1 H' (xc k js σD) σ':=by
  refine DOk.keepN ((ok.block k js).after sm) hl λj=>?_
  by_cases hj:j<k
  ·left;unfold xc;rw[List.getElem?_append_left (by simpa using hj),List.getElem?_replicate,if_pos hj]
  ·right;exact fr j (by omega)
 by_cases hlt:i<ds.length
 ·have e:ds[i]?=some ds[i]:=by simp[hlt]
  obtain⟨go,yl⟩:=it.go H' i ds[i] sm e;refine .inr ⟨go,λx H2 y=>?_⟩;obtain⟨s2,r2⟩:=yl x H2 y;rw[sub e]at q1;refine mono _ _ _ _ _ (λσ2 H3 z=>?_) (hg ds[i] x σ' H2 _ _ (ok1.after s2) r2 q1);obtain⟨rfl,l2,f2,σD2,ok2,q2⟩:=z;have fr2:∀j,k<=j->σ2[j]?=(yt k js σ)[j]?:=λj hj=>by rw[f2 j (λz=>absurd (his j z) (by omega)),fr j hj]
  refine⟨H1,σD2,_,ok2,q2,λb H4 s4 q4=>?_⟩
  cases b with
  |true=>
   rw[if_pos rfl]at q4 ⊢;refine⟨H1,σD2,_,ok2.after s4,q4,λy H5 dy s5 r5 q5=>?_⟩;have eD5:=s5 _ _ (s4 _ _ (s2 _ _ eD));have ra5:=((ra.same s2).same s4).same s5;refine⟨vs,eD5,by rw[<-ra5.length];omega,ds.length-(i+1),by omega,rfl,hlt,?_,l2.trans hl,fr2,acc ++ [dy],vs ++ [y],zm,?_,by rw[List.length_append,List.length_singleton];omega,?_⟩
   ·exact Same.but (((sm.trans s2).trans s4).trans s5) hn But.write
   ·exact(ra5.append (.cons r5 .nil)).mono (vn eD5 rfl)
   ·simpa using q5
  |false=>
   rw[if_neg Bool.false_ne_true]at q4 ⊢;exact⟨ds.length-(i+1),by omega,rfl,hlt,(sm.trans s2).trans s4,l2.trans hl,fr2,acc,vs,s4 _ _ (s2 _ _ eD),(ra.same s2).same s4,by omega,by simpa using q4⟩
 ·have e:i=ds.length:=by omega
  subst e;rw[List.drop_length]at q1;refine .inl ⟨it.stop H' sm,Dd,vs,acc,rfl,sm,hn,eD,ra,?_⟩;have:lcD (lcF g tt te (xc k js σD)) [] (λys=>QD (acc++ys)):=q1;simpa[lcD]using this
def cnG(K:PySem.W.Frag)(is:List Nat)(g:DTG):TG:=λv σ H Q=>∃H₀ σD d QD,DOk K H₀ H σD σ/\Rep K H d v/\g d σD QD/\∀σ' σD',σ'.length=σ.length->DOk K H₀ H σD' σ'->(∀j,j∉is->σ'[j]?=σ[j]?)->QD σD'->Q σ' H
theorem DG.pg{is:List Nat}{g:DTG}(h:DG X tg is g):PG X tg (cnG X.K is g):=λpins s σ H v u Q I r zq87=>by obtain⟨H₀,σD,d,QD,ok,rp,q,k⟩:=zq87;exact thn (h.run pins s σ H H₀ σD v u d QD I ok r rp q) λ_ s' zq1=>by obtain⟨σ',σD',I',ok',f,qd⟩:=zq1;exact⟨σ',H,I',k σ' σD' (by rw[I'.len,I.len]) ok' f qd⟩
variable {elt:Expr}{ifs:List Expr}{scope:Scope}{cl:List (Str×Addr)}{N' capt:List Str}{k:Nat}{js is:List Nat}{ti:DTF}{g:DTG}{tt:DTT}{te:DTE}
theorem zaf(hc:X.calm=true)(L:zcz X scope cl N' capt k js)
  (hi:DIw X tg iter ti) (hg:∀C fp s2 H2,DG (ye X N' scope cl C fp s2 H2) tg is g) (ht:∀C fp s2 H2,DTs (ye X N' scope cl C fp s2 H2) ifs tt) (he:∀C fp s2 H2,DE (ye X N' scope cl C fp s2 H2) elt te)
  (his:∀j∈is,j<k:=by decide) (hs:∀x,foldedSetIterable iter X.env x=pure x:=by intro _;rfl):DF X (.ListComp elt [⟨tg,iter,ifs,0⟩] scope pos) (dLC k js ti g tt te) :=
 DF.of (zsu hc L hi.pi (λC fp s2 H2=>(hg C fp s2 H2).pg) (λC fp s2 H2=>(ht C fp s2 H2).pts) (λC fp s2 H2=>(he C fp s2 H2).pe) hs) λσ H H₀ σD QD ok q=>⟨H₀,σD,_,ok,q,λJ H1 ds s1 it q1 Dd hn=>by
  have z:=zfs (k:=k) (js:=js) (is:=is) (gL:=cnG X.K is g) (Dd:=Dd) (ok.after s1) it q1.1 (λd v σ' H' Q σ0 ok0 r0 q0=>⟨H1,σ0,d,Q,ok0,r0,q0,λσ2 σD2 l2 ok2 f2 q2=>⟨rfl,l2,f2,σD2,ok2,q2⟩⟩)
   (λv σ' H' Q Q' m zq7=>by obtain⟨a,b,c,d,e1,e2,e3,e4⟩:=zq7;exact⟨a,b,c,d,e1,e2,e3,λσ2 σD2 l o f q=>m _ _ (e4 σ2 σD2 l o f q)⟩) his hn q1.2
  obtain⟨W,w0,turn⟩:=z;refine⟨W,w0,λi m σ' H' w=>?_⟩;rcases turn i m σ' H' w with⟨st,a,vs,xs,e,sm,n,e2,r,qd⟩|h
  ·exact .inl ⟨st,a,vs,xs,e,s1.trans sm,s1.free n,e2,r,qd⟩
  ·exact .inr h⟩
end
inductive Ret where
 |val (d:D)|new (xs:List D)
def Ret.d:Ret->D
 |.val d=>d
 |.new xs=>.list xs
abbrev DSp:=List W->(Ret->Prop)->Prop
def zag(K:PySem.W.Frag)(H H':Hp):Ret->V->Prop
 |.val d,v=>Rep K H' d v
 |.new xs,v=>∃a vs,v=.ref a/\H a=none/\H' a=some (.lst vs)/\Reps K H' xs vs
def y0(K:PySem.W.Frag)(sp:DSp):Sp:=λvs H Q _=>∃ws QD,RepWs K H ws vs/\sp ws QD/\∀v H' r,Same H H'->zag K H H' r v->QD r->Q v H'
def zlw(sp:DSp)(t:DTP):DTE:=λσ Q=>t σ λws=>sp ws λr=>Q r.d
def zg4(sp:DSp)(t:DTP):DTF:=λσ Q=>t σ λws=>sp ws λr=>match r with
 |.new xs=>Q xs
 |.val _=>False
section
variable {X:Cx}{e:Expr}{es:List Expr}{k k':Nat}{x:Str}{ps:List Str}{sp:DSp}{t:DTP}{p pos:Pos}
theorem zft{pins:List (Addr×Obj)}{σ:St}{H H₀:Hp}{σD:DSt}{s:Shared}{Q:Ret->Prop}(C:za2 X.prog X.w X.K X.mg X.base k x ps (y0 X.K sp))(hr:Room k' X.A)(hg:Gl X x)(ha:DPs X (e::es) t)(hk:k<=k')
  (hdb:(x ==("__debug__" : Str))=false) (he:starEach (e::es) X.env=(false,eval e X.env)::starEach es X.env) (hpl:(backTo pos (starEach es X.env)).any (·.1)=false) (I:Inv X pins σ H s) (ok:DOk X.K H₀ H σD σ) (q:t σD λws=>sp ws Q) :
  wpAny (model X.prog X.w) X.A (eval (.Call (.Name x p) (e::es) [] pos) X.env) (λu s'=>∃v H' r,Inv X pins σ H' s'/\RelV v u/\Same H H'/\zag X.K H H' r v/\Q r) X.xe s:=by
 refine thn (zb4 C hr hg ha.pa hk hdb he hpl pins s σ H (λv H'=>∃r,Same H H'/\zag X.K H H' r v/\Q r) I ?_) λu s' zq26=>by obtain⟨v,H',I',r,z,sm,rp,qd⟩:=zq26;exact⟨v,H',z,I',r,sm,rp,qd⟩
 refine⟨H₀,σD,_,ok,q,λvs H1 ws s1 r1 q1=>⟨ws,Q,by rw[List.append_nil];exact r1,q1,λv H' r s2 rp qd=>⟨r,s1.trans s2,?_,qd⟩⟩⟩
 cases r with
 |val d=>exact rp
 |new xs=>obtain⟨a,vs,e1,n,e2,r⟩:=rp;exact⟨a,vs,e1,s1.free n,e2,r⟩
theorem z9(C:za2 X.prog X.w X.K X.mg X.base k x ps (y0 X.K sp))(hr:Room k' X.A)(hg:Gl X x)(ha:DPs X (e::es) t)(hk:k<=k':=by decide)(hdb:(x ==("__debug__" : Str))=false:=by decide)
  (he:starEach (e::es) X.env=(false,eval e X.env)::starEach es X.env:=by rfl) (hpl:(backTo pos (starEach es X.env)).any (·.1)=false:=by rfl):DE X (.Call (.Name x p) (e::es) [] pos) (zlw sp t) :=
 ⟨λpins s σ H H₀ σD Q I ok q=>thn (zft C hr hg ha hk hdb he hpl I ok q) λu s' zq83=>by
  obtain⟨v,H',r,I',rv,sm,rp,qd⟩:=zq83
  cases r with
  |val d=>exact⟨v,H',d,I',rv,sm,rp,qd⟩
  |new xs=>
   obtain⟨a,vs,rfl,n,e,r⟩:=rp;obtain⟨H'',J,sm',r'⟩:=za5 I' sm n e r;exact⟨.ref a,H'',.list xs,J,rv,sm',r',qd⟩⟩
theorem zn7(C:za2 X.prog X.w X.K X.mg X.base k x ps (y0 X.K sp))(hr:Room k' X.A)(hg:Gl X x)(ha:DPs X (e::es) t)(hk:k<=k':=by decide)(hdb:(x ==("__debug__" : Str))=false:=by decide)
  (he:starEach (e::es) X.env=(false,eval e X.env)::starEach es X.env:=by rfl) (hpl:(backTo pos (starEach es X.env)).any (·.1)=false:=by rfl):DF X (.Call (.Name x p) (e::es) [] pos) (zg4 sp t) :=
 ⟨λpins s σ H H₀ σD Q I ok q=>thn (zft C hr hg ha hk hdb he hpl I ok q) λu s' zq83=>by
  obtain⟨v,H',r,I',rv,sm,rp,qd⟩:=zq83
  cases r with
  |val d=>exact qd.elim
  |new xs=>
   obtain⟨a,vs,rfl,n,e,r⟩:=rp;exact⟨a,H',vs,xs,rv,I',sm,n,e,r,qd⟩⟩
end
structure x4 where
 nx:DSt->Prop
 rt:Ret->Prop
 bk:DSt->Prop:=λ_=>False
 ct:DSt->Prop:=λ_=>False
abbrev DTS:=x4->DSt->Prop
def DSP(X:Cx)(pins:List (Addr×Obj))(H₀ H:Hp)(Dn:x4)(f:Flow)(s':Shared):Prop :=
 match f with
 |.next=>∃σ' H' σD',Inv X pins σ' H' s'/\DOk X.K H₀ H' σD' σ'/\Pers H H'/\Dn.nx σD'
 |.brk=>∃σ' H' σD',Inv X pins σ' H' s'/\DOk X.K H₀ H' σD' σ'/\Pers H H'/\Dn.bk σD'
 |.cont=>∃σ' H' σD',Inv X pins σ' H' s'/\DOk X.K H₀ H' σD' σ'/\Pers H H'/\Dn.ct σD'
 |.ret u=>∃v σ' H' r,Inv X pins σ' H' s'/\RelV v u/\Same H₀ H'/\zag X.K H₀ H' r v/\Dn.rt r
structure DS(X:Cx)(st:Stmt)(t:DTS):Prop where
 run:∀(pins:List (Addr×Obj)) (s:Shared) (σ:St) (H H₀:Hp) (σD:DSt) (Dn:x4),Inv X pins σ H s->DOk X.K H₀ H σD σ->t Dn σD->wpAny (model X.prog X.w) X.A (exec st X.env) (DSP X pins H₀ H Dn) X.xe s
structure DSs(X:Cx)(st:List Stmt)(t:DTS):Prop where
 run:∀(pins:List (Addr×Obj)) (s:Shared) (σ:St) (H H₀:Hp) (σD:DSt) (Dn:x4),Inv X pins σ H s->DOk X.K H₀ H σD σ->t Dn σD->wpAny (model X.prog X.w) X.A (execs st X.env) (DSP X pins H₀ H Dn) X.xe s
theorem DSP.back{X:Cx}{pins:List (Addr×Obj)}{H₀ H H1:Hp}{Dn:x4}{f:Flow}{s':Shared}(p:Pers H H1)(h:DSP X pins H₀ H1 Dn f s'):DSP X pins H₀ H Dn f s':=by
 cases f with
 |next=>obtain⟨a,b,c,e1,e2,e3,e4⟩:=h;exact⟨a,b,c,e1,e2,p.trans e3,e4⟩
 |brk=>obtain⟨a,b,c,e1,e2,e3,e4⟩:=h;exact⟨a,b,c,e1,e2,p.trans e3,e4⟩
 |cont=>obtain⟨a,b,c,e1,e2,e3,e4⟩:=h;exact⟨a,b,c,e1,e2,p.trans e3,e4⟩
 |ret u=>exact h
def zlx(K:PySem.W.Frag)(H₀ H:Hp)(Dn:x4):zgm where
 nx:=λσ' H'=>∃σD',DOk K H₀ H' σD' σ'/\Pers H H'/\Dn.nx σD'
 bk:=λσ' H'=>∃σD',DOk K H₀ H' σD' σ'/\Pers H H'/\Dn.bk σD'
 ct:=λσ' H'=>∃σD',DOk K H₀ H' σD' σ'/\Pers H H'/\Dn.ct σD'
 rt:=λv H'=>∃r,Same H₀ H'/\zag K H₀ H' r v/\Dn.rt r
section
variable {X:Cx}{st:Stmt}{sts rest:List Stmt}{t u:DTS}{e:Expr}{te:DTE}{tf:DTF}{pos:Pos}
theorem SP.dsp{pins:List (Addr×Obj)}{H₀ H:Hp}{Dn:x4}{f:Flow}{s':Shared}(h:SP X pins (zlx X.K H₀ H Dn) f s'):DSP X pins H₀ H Dn f s':=by
 cases f with
 |next=>obtain⟨a,b,e1,c,e2,e3,e4⟩:=h;exact⟨a,b,c,e1,e2,e3,e4⟩
 |brk=>obtain⟨a,b,e1,c,e2,e3,e4⟩:=h;exact⟨a,b,c,e1,e2,e3,e4⟩
 |cont=>obtain⟨a,b,e1,c,e2,e3,e4⟩:=h;exact⟨a,b,c,e1,e2,e3,e4⟩
 |ret u=>obtain⟨v,a,b,e1,e2,r,e3,e4,e5⟩:=h;exact⟨v,a,b,r,e1,e2,e3,e4,e5⟩
theorem DS.of{t':TS}(h:PS X st t')(k:∀σ H H₀ σD Dn,DOk X.K H₀ H σD σ->t Dn σD->t' (zlx X.K H₀ H Dn) σ H):DS X st t :=
 ⟨λpins s σ H H₀ σD Dn I ok q=>thn (h pins s σ H _ I (k σ H H₀ σD Dn ok q)) λ_ _ z=>z.dsp⟩
def cnS(K:PySem.W.Frag)(t:DTS):TS:=λE σ H=>∃H₀ σD Dn,DOk K H₀ H σD σ/\t Dn σD/\(∀σ' H' σD',DOk K H₀ H' σD' σ'->Pers H H'->Dn.nx σD'->E.nx σ' H')/\(∀v H' r,Same H₀ H'->zag K H₀ H' r v->Dn.rt r->E.rt v H') /\
 (∀σ' H' σD',DOk K H₀ H' σD' σ'->Pers H H'->Dn.bk σD'->E.bk σ' H')/\∀σ' H' σD',DOk K H₀ H' σD' σ'->Pers H H'->Dn.ct σD'->E.ct σ' H'
theorem DSs.ps(h:DSs X sts t):PSs X sts (cnS X.K t):=λpins s σ H E I ⟨H₀,σD,Dn,ok,q,k1,k2,k3,k4⟩=>thn (h.run pins s σ H H₀ σD Dn I ok q) λf s' z=>by
 cases f with
 |next=>obtain⟨a,b,c,e1,e2,e3,e4⟩:=z;exact⟨a,b,e1,k1 a b c e2 e3 e4⟩
 |brk=>obtain⟨a,b,c,e1,e2,e3,e4⟩:=z;exact⟨a,b,e1,k3 a b c e2 e3 e4⟩
 |cont=>obtain⟨a,b,c,e1,e2,e3,e4⟩:=z;exact⟨a,b,e1,k4 a b c e2 e3 e4⟩
 |ret u=>obtain⟨v,a,b,r,e1,e2,e3,e4,e5⟩:=z;exact⟨v,a,b,e1,e2,k2 v b r e3 e4 e5⟩
def zif:DTS:=λDn σ=>Dn.nx σ
def zly(t u:DTS):DTS:=λDn σ=>t { Dn with nx:=u Dn } σ
theorem yx:DSs X [] zif:=⟨λ_ _ σ H _ σD _ I ok h=>wpAny_execs_nil ⟨σ,H,σD,I,ok,Pers.refl _,h⟩⟩
theorem zf(h1:DS X st t)(h2:DSs X rest u):DSs X (st::rest) (zly t u):=⟨λpins s σ H H₀ σD Dn I ok q=>by
 refine wpAny_execs_cons (thn (h1.run pins s σ H H₀ σD { Dn with nx:=u Dn } I ok q) λf s1 z=>?_)
 cases f with
 |next=>
  obtain⟨σ',H',σD',I',ok',p,q'⟩:=z;exact thn (h2.run pins s1 σ' H' H₀ σD' Dn I' ok' q') λ_ _ y=>y.back p
 |ret v=>exact z
 |brk=>exact z
 |cont=>exact z⟩
theorem zj(h1:DS X st t):DSs X [st] t:=⟨λpins s σ H H₀ σD Dn I ok q=>by
 refine wpAny_execs_cons (thn (h1.run pins s σ H H₀ σD Dn I ok q) λf s1 z=>?_)
 cases f with
 |next=>exact wpAny_execs_nil z
 |ret v=>exact z
 |brk=>exact z
 |cont=>exact z⟩
def zra(te:DTE):DTS:=λDn σ=>te σ λd=>Dn.rt (.val d)
def zlz(tf:DTF):DTS:=λDn σ=>tf σ λxs=>Dn.rt (.new xs)
theorem yk(he:DE X e te):DS X (.Return (some e) pos) (zra te) :=
 DS.of (zbz he.pe) λσ H H₀ σD Dn ok q=>⟨H₀,σD,_,ok,q,λv H1 d s1 r1 q1=>⟨.val d,ok.same.trans s1,r1,q1⟩⟩
theorem zn8(he:DF X e tf):DS X (.Return (some e) pos) (zlz tf) :=
 DS.of (zbz he.pe) λσ H H₀ σD Dn ok q=>⟨H₀,σD,_,ok,q,λa H1 vs xs s1 n e r1 q1=>⟨.new xs,ok.same.trans s1,⟨a,vs,rfl,ok.same.free n,e,r1⟩,q1⟩⟩
def zl0(i:Nat)(te:DTE):DTS:=λDn σ=>te σ λd=>Dn.nx (σ.set i (some (.val d)))
def zl1(i:Nat)(tf:DTF):DTS:=λDn σ=>tf σ λxs=>Dn.nx (σ.set i (some (.own (.lst xs))))
def zl2(i:Nat)(tf:DTF):DTS:=λDn σ=>tf σ λxs=>(∃a b c:Int,xs = [.int a,.int b,.int c])/\Dn.nx (σ.set i (some .pen))
theorem yn{i:Nat}{x:Str}{pos':Pos}(hN:X.N.Nodup)(hi:X.N[i]?=some x)(hx:Loc X.env.scope x)(he:DE X e te)(hs:swapsWith e (some (.Name x pos')) pos.line X.env=pure false:=by rfl)(hf:X.fn x=true\/X.env.scope.names.lookup x=some .local:=by first|exact .inl rfl|exact .inr rfl|assumption):
  DS X (.Assign [.Name x pos'] e pos) (zl0 i te) :=
 DS.of (zd4 hN hi hx he.pe hs hf) λσ H H₀ σD Dn ok q=>⟨H₀,σD,_,ok,q,λv H1 d s1 r1 q1=>⟨_,(ok.after s1).setV r1 i,s1.pers,q1⟩⟩
theorem zah{i:Nat}{x:Str}{pos':Pos}(hN:X.N.Nodup)(hi:X.N[i]?=some x)(hx:Loc X.env.scope x)(he:DF X e tf)(hs:swapsWith e (some (.Name x pos')) pos.line X.env=pure false:=by rfl)(hf:X.fn x=true\/X.env.scope.names.lookup x=some .local:=by first|exact .inl rfl|exact .inr rfl|assumption):
  DS X (.Assign [.Name x pos'] e pos) (zl1 i tf) :=
 DS.of (zd4 hN hi hx he.pe hs hf) λσ H H₀ σD Dn ok q=>⟨H₀,σD,_,ok,q,λa H1 vs xs s1 n e r1 q1=>⟨_,ok.setO s1 n e r1 i,s1.pers,q1⟩⟩
theorem zn9{i:Nat}{x:Str}{pos':Pos}(hN:X.N.Nodup)(hi:X.N[i]?=some x)(hx:Loc X.env.scope x)(he:DF X e tf)(hs:swapsWith e (some (.Name x pos')) pos.line X.env=pure false:=by rfl)(hf:X.fn x=true\/X.env.scope.names.lookup x=some .local:=by first|exact .inl rfl|exact .inr rfl|assumption):
  DS X (.Assign [.Name x pos'] e pos) (zl2 i tf):=⟨λpins s σ H H₀ σD Dn I ok q=>by
 refine thn (zd4 hN hi hx he.pe hs hf pins s σ H { nx:=λσ' H'=>∃a,Same H H'/\H a=none/\σ'=σ.set i (some (.ref a))/\(∃x y z:Int,H' a=some (.lst [.int x,.int y,.int z]))/\Dn.nx (σD.set i (some .pen)),rt:=λ_ _=>False } I ⟨H₀,σD,_,ok,q,λa H1 vs xs s1 n e r1 q1=>?_⟩) λf s' z=>?_
 ·obtain⟨⟨x,y,z,rfl⟩,q1⟩:=q1
  cases r1 with
  |cons r1 t=>cases t with
   |cons r2 t=>cases t with
    |cons r3 t=>
     cases t
     cases r1
     cases r2
     cases r3;exact⟨a,s1,n,rfl,⟨x,y,z,e⟩,q1⟩
 ·cases f with
  |next=>
   obtain⟨σ',H',I',a,sm,n,rfl,⟨x,y,z,e⟩,q⟩:=z;have sm2:Same H (upd H' a (za3 a)):=λb u hb=>by rw[zh (yd hb n)];exact sm b u hb
   exact⟨_,_,_,I'.toPen e,(ok.after sm2).put (.pen zm) i,sm2.pers,q⟩
  |ret u=>obtain⟨_,_,_,_,_,z⟩:=z;exact z.elim
  |brk=>obtain⟨_,_,_,z⟩:=z;exact z.elim
  |cont=>obtain⟨_,_,_,z⟩:=z;exact z.elim⟩
def zrb(te:DTE)(g:DTG):DTS:=λDn σ=>te σ λd=>g d σ Dn.nx
theorem zem{tg:Expr}{is:List Nat}{g:DTG}(he:DE X e te)(hg:DG X tg is g)(hs:swapsWithSole [tg] e pos.line X.env=pure false:=by rfl)(hw:swappedStores [tg] e X.env=pure none:=by rfl)
  (h1:(assignEach [tg] X.env).map (·.2) = [assign tg X.env]:=by rfl):DS X (.Assign [tg] e pos) (zrb te g) :=
 DS.of (zd3 he.pe hg.pg hs hw h1) λσ H H₀ σD Dn ok q=>⟨H₀,σD,_,ok,q,λv H1 d s1 r1 q1=>⟨H₀,σD,d,_,ok.after s1,r1,q1,λσ' σD' _ ok' _ q'=>⟨σD',ok',s1.pers,q'⟩⟩⟩
def zrc(i j:Nat)(t:DTF):DTS:=λDn σ=>t σ λds=>match ds with
 |[d,e]=>Dn.nx ((σ.set i (some (.val d))).set j (some (.val e)))
 |_=>False
theorem zrd{i j:Nat}{x y:Str}{a b:Expr}{px py pt:Pos}{kt k2 pt2}(hc:X.calm=true)(hN:X.N.Nodup)(hi:X.N[i]?=some x)(hj:X.N[j]?=some y)(hij:i≠j)
  (hx:X.env.scope.names.lookup x=some .local) (hy:X.env.scope.names.lookup y=some .local) (ha:DA X [a,b] tf)
  (hw:swappedStores [.Tuple [.Name x px,.Name y py] kt pt] (.Tuple [a,b] k2 pt2) X.env=pure (some [x,y]))
  (hs:swapsWithSole [.Tuple [.Name x px,.Name y py] kt pt] (.Tuple [a,b] k2 pt2) pos.line X.env=pure false:=by rfl) :
  DS X (.Assign [.Tuple [.Name x px,.Name y py] kt pt] (.Tuple [a,b] k2 pt2) pos) (zrc i j tf) :=
 DS.of (zp1 hc hN hi hj hij hx hy ha.pa hw hs) λσ H H₀ σD Dn ok q=>⟨H₀,σD,_,ok,q,λvs H1 ds s1 r1 q1=>by
  match ds,r1,q1 with
  |[d,e],r1,q1=>
   cases r1 with
   |cons p1 t1=>cases t1 with
    |cons p2 t2=>
     cases t2;exact⟨_,_,rfl,_,((ok.after s1).setV p1 i).setV p2 j,s1.pers,q1⟩⟩
def dIf(c:DTT)(t u:DTS):DTS:=λDn σ=>c σ λb=>if b=true then t Dn σ else u Dn σ
theorem xr{c:Expr}{a b:List Stmt}{tc:DTT}(hc:DT X c tc)(ha:DSs X a t)(hb:DSs X b u):DS X (.If c a b pos) (dIf tc t u):=⟨λpins s σ H H₀ σD Dn I ok q=>by
 refine wpAny_If (thn (hc.run pins s σ H H₀ σD _ I ok q) λd s1 ⟨H1,I1,sm,q1⟩=>?_)
 cases d with
 |true=>exact thn (ha.run pins s1 σ H1 H₀ σD Dn I1 (ok.after sm) (by simpa using q1)) λ_ _ z=>z.back sm.pers
 |false=>exact thn (hb.run pins s1 σ H1 H₀ σD Dn I1 (ok.after sm) (by simpa using q1)) λ_ _ z=>z.back sm.pers⟩
def zc1(g:DTG)(tb:DTS)(Dn:x4):List D->DSt->Prop
 |[],σ=>Dn.nx σ
 |d::ds,σ=>g d σ λσ2=>tb { Dn with nx:=zc1 g tb Dn ds,ct:=zc1 g tb Dn ds,bk:=Dn.nx } σ2
theorem we{g:DTG}{tb:DTS}{Dn:x4}(Iv:List D->DSt->Prop)(hs:∀d ds σ (N:DSt->Prop),Iv (d::ds) σ->(∀σ',Iv ds σ'->N σ')->g d σ λσ2=>tb { Dn with nx:=N,ct:=N,bk:=Dn.nx } σ2)(hd:∀σ,Iv [] σ->Dn.nx σ):∀{ds:List D}{σ:DSt},Iv ds σ->zc1 g tb Dn ds σ
 |[],σ,h=>hd σ h
 |d::ds,σ,h=>hs d ds σ _ h λσ' h'=>we Iv hs hd h'
def zre(ti:DTF)(g:DTG)(tb:DTS):DTS:=λDn σ=>ti σ λds=>zc1 g tb Dn ds σ
theorem w4{tg iter:Expr}{body:List Stmt}{ti:DTF}{is:List Nat}{g:DTG}{tb:DTS}(hp:PassesOwn (model X.prog X.w) X.A X.env X.xe)(hc:X.calm=true)(hi:DI X tg iter ti)(hg:DG X tg is g)(hb:DSs X body tb)
  (hs:∀x,foldedSetIterable iter X.env x=pure x:=by intro _;rfl):DS X (.For tg iter body [] pos) (zre ti g tb) :=
 DS.of (zp2 hp hc hi.pi hg.pg hb.ps hs) λσ H H₀ σD Dn ok q=>⟨H₀,σD,_,ok,q,λJ H1 ds s1 it q1=>by
  have sub:∀{i:Nat}{d:D}{σ':DSt},ds[i]?=some d->zc1 g tb Dn (ds.drop i) σ'=g d σ' (λσ2=>tb { Dn with nx:=zc1 g tb Dn (ds.drop (i+1)),ct:=zc1 g tb Dn (ds.drop (i+1)),bk:=Dn.nx } σ2):=λ{i d σ'} e=>by
   obtain⟨hi,e'⟩:=List.getElem?_eq_some_iff.mp e;rw[List.drop_eq_getElem_cons hi,e'];rfl
  refine⟨λi m σ' H'=>m=ds.length-i/\i<=ds.length/\Pers H1 H'/\∃σD',DOk X.K H₀ H' σD' σ'/\zc1 g tb Dn (ds.drop i) σD',⟨ds.length,rfl,Nat.zero_le _,Pers.refl _,σD,ok.after s1,q1⟩,?_⟩;rintro i m σ' H' ⟨rfl,hi,pr,σD',ok',q'⟩
  by_cases hlt:i<ds.length
  ·have e:ds[i]?=some ds[i]:=by simp[hlt]
   obtain⟨go,yl⟩:=it.go H' i ds[i] pr e;rw[sub e]at q';refine .inr ⟨go,λσ2 H2=>Pers H1 H2/\∃σD2,DOk X.K H₀ H2 σD2 σ2/\zc1 g tb Dn (ds.drop (i+1)) σD2,λσ2 H2 zq18=>by obtain⟨p2,σD2,ok2,q2⟩:=zq18;exact⟨ds.length-(i+1),by omega,rfl,hlt,p2,σD2,ok2,q2⟩,λx H2 y=>?_⟩;obtain⟨s2,r2⟩:=yl x H2 y;have p2:=pr.trans s2.pers;refine⟨H₀,σD',ds[i],_,ok'.after s2,r2,q',λσ3 σD3 _ ok3 _ q3=>?_⟩;exact⟨H₀,σD3,_,ok3,q3,λσ4 H4 σD4 ok4 p4 q4=>⟨p2.trans p4,σD4,ok4,q4⟩,λv H4 r sm rp qr=>⟨r,sm,rp,qr⟩,λσ4 H4 σD4 ok4 p4 q4=>⟨σD4,ok4,(s1.pers.trans p2).trans p4,q4⟩,λσ4 H4 σD4 ok4 p4 q4=>⟨p2.trans p4,σD4,ok4,q4⟩⟩
  ·have e:i=ds.length:=by omega
   subst e;rw[List.drop_length]at q';exact .inl ⟨it.stop H' pr,σD',ok',s1.pers.trans pr,q'⟩⟩
variable {ta tb:DTE}
def zoa(i:Nat)(te:DTE):DTS:=λDn σ=>match σ[i]? with
 |some (some (.own (.lst xs)))=>te σ λd=>xs.length<sizeLine/\Dn.nx (clr (σ.set i (some (.own (.lst (xs ++ [d]))))))
 |_=>False
theorem wx(i:Nat){x:Str}{p1 apos cpos:Pos}(he:DE X e te)(hN:X.N[i]?=some x:=by rfl)(hv:Vis X.env.scope x:=by first|exact Or.inl rfl|exact Or.inr (Or.inl rfl)|exact Or.inr (Or.inr rfl))(hd:(x ==("__debug__" : Str))=false:=by decide)
  (hcd:(x ==("__classdict__" : Str))=false:=by decide)
  (hbase:attributeBase (.Name x p1) "append" X.env (eval (.Name x p1) X.env)=eval (.Name x p1) X.env:=by rfl)
  (hfew:((backTo cpos (starEach (e :: []) X.env)).all (λx=>!x.1) && (backToKw cpos (keywordEach [] X.env)).all (λx=>x.1.isSome)
   && decide ((e :: []).length+([]:List Keyword).length+(if ([]:List Keyword).isEmpty then 0 else 1)<30))=true:=by rfl)
  (hline:(apos.endLine == cpos.line)=true:=by rfl) (hst:starEach (e :: []) X.env=(false,eval e X.env)::starEach [] X.env:=by rfl) (hplain:(backTo cpos (starEach [] X.env)).any (·.1)=false:=by rfl)
  (hs:swapsWith (.Call (.Attribute (.Name x p1) "append" apos) [e] [] cpos) none pos.line X.env=pure false:=by rfl):DS X (.Expr (.Call (.Attribute (.Name x p1) "append" apos) [e] [] cpos) pos) (zoa i te) :=
 DS.of (znh (zk7 PySem.F.plainAttrs_list PySem.F.slot_list_append PySem.F.type_list_append za1 (x5 (i:=i) hN hv hd hcd) (yo he.pe xp hst) hbase hfew hline hst hplain) hs) λσ H H₀ σD Dn ok q=>by
  unfold zoa at q
  split at q
  ·next xs eo=>
   obtain⟨a,vs,e1,e2,r,n⟩:=ok.ownL eo;refine⟨.ref a,e1,.inl ⟨rfl,vs,SqL.of e2⟩,H₀,σD,_,ok,q,λv H1 d s1 r1 q1=>?_⟩;refine⟨a,vs,v,rfl,rfl,s1 _ _ e2,by rw[<-r.length];exact q1.1,_,(ok.after s1).write eo e1 (s1 _ _ e2) ((r.same s1).append (.cons r1 .nil)),s1.pers.trans (vn (s1 _ _ e2) rfl),q1.2⟩
  ·exact q.elim
def zl3(i:Nat)(ti te:DTE):DTS:=λDn σ=>te σ λd=>match σ[i]? with
 |some (some (.own (.lst xs)))=>ti σ λk=>match k with
  |.int k=>∃j,ixN xs.length k=some j/\Dn.nx (clr (σ.set i (some (.own (.lst (xs.set j d))))))
  |_=>False
 |_=>False
theorem zig(i:Nat){ie:Expr}{x:Str}{p1 tpos:Pos}(he:DE X e te)(hi:DE X ie ta)(hN:X.N[i]?=some x:=by rfl)(hv:Vis X.env.scope x:=by first|exact Or.inl rfl|exact Or.inr (Or.inl rfl)|exact Or.inr (Or.inr rfl))(hd:(x ==("__debug__" : Str))=false:=by decide)
  (hcd:(x ==("__classdict__" : Str))=false:=by decide)
  (ha:∀v,assign (.Subscript (.Name x p1) ie tpos) X.env v=(do
   let ov <-holding [v] (eval (.Name x p1) X.env)
   let iv <-holding [v,ov] (eval ie X.env)
   standAt tpos
   holding [v,ov,iv] (setItem ov iv v)
   release [v,ov,iv] []):=by intro _;rfl)
  (hs:swapsWithSole [.Subscript (.Name x p1) ie tpos] e pos.line X.env=pure false:=by rfl) (hw:swappedStores [.Subscript (.Name x p1) ie tpos] e X.env=pure none:=by rfl)
  (h1:(assignEach [.Subscript (.Name x p1) ie tpos] X.env).map (·.2) = [assign (.Subscript (.Name x p1) ie tpos) X.env]:=by rfl):DS X (.Assign [.Subscript (.Name x p1) ie tpos] e pos) (zl3 i ta te) :=
 DS.of (zd3 he.pe (zgn (x5 (i:=i) hN hv hd hcd) hi.pe zb3 ha) hs hw h1) λσ H H₀ σD Dn ok q=>⟨H₀,σD,_,ok,q,λv H1 d s1 r1 q1=>by
  split at q1
  ·next xs eo=>
   obtain⟨a,vs,e1,e2,r,n⟩:=(ok.after s1).ownL eo;refine⟨.ref a,e1,H₀,σD,_,ok.after s1,q1,λw H2 k s2 r2 q2=>?_⟩
   cases k with
   |int k=>
    cases r2;obtain⟨j,ej,q2⟩:=q2;exact⟨a,vs,k,j,rfl,rfl,s2 _ _ e2,by rw[<-r.length];exact ej,_,((ok.after s1).after s2).write eo e1 (s2 _ _ e2) (Reps.set (r1.same s2) j (r.same s2)),(s1.pers.trans s2.pers).trans (vn (s2 _ _ e2) rfl),q2⟩
   |_=>exact q2.elim
  ·exact q1.elim⟩
end
def jx(N:List Str)(ws:List W):DSt:=ws.map some++List.replicate (N.length-ws.length) none
section
variable {P:Program}{w:World}{K:PySem.W.Frag}{mg:Str->Option Value}{base:Heap}
theorem DOk.begin{H:Hp}{ws:List W}{vs:List V}(r:RepWs K H ws vs)(N:List Str):DOk K H H (jx N ws) (wo N vs):=by
 refine⟨Same.refl _,[],?_,List.nodup_nil,λa ha=>by cases ha⟩;unfold jx wo;rw[<-r.length];generalize N.length-ws.length=n;have rep:∀n:Nat,Slots K H H (List.replicate n none) (List.replicate n none) []:=λn=>by
  induction n with
  |zero=>exact .nil
  |succ n ih=>exact .none ih
 induction r with
 |nil=>exact rep n
 |@cons w' v ws vs r t ih=>
  cases w' with
  |val d=>exact .val r ih
  |vw xs=>exact .vw r ih
  |vd xs=>exact .vd r ih
  |exc xs=>exact .exc r ih
  |scr ns=>obtain⟨a,rfl,r⟩:=r;exact .scr r ih
  |pen=>obtain⟨a,rfl,r⟩:=r;exact .pen r ih
  |tmp d=>exact r.elim
  |own o=>exact r.elim
theorem Fun.dok{x qual:Str}{st:Stmt}{f:Addr}{fd:FuncData}{N ps:List Str}{k:Nat}{sp:DSp}(F:Fun K x qual st f fd)(S:yf N ps (ze st))(len:∀ws Q,sp ws Q->ws.length=ps.length)
  (hbody:∀(cdv:Value) (A:Around) (outer:List Env) (s:Shared) (H:Hp) (ws:List W) (Q:Ret->Prop) (E:XK),Room k (A.deeper (envOfC qual (ze st) s.heap.objs.size f cdv))->sp ws Q ->
   ∃t,DSs (xn CX0 P w K mg base N qual (ze st) f cdv A outer s H E).nox (xa st) t/\t { nx:=λ_=>Q (.val .none),rt:=Q } (jx N ws)):FnOk P w K mg base CX0 (k+1) f fd ps (y0 K sp):=by
 refine F.ok S (λvs H Q E h=>?_) λcdv A outer s H vs Q E hr h=>?_
 ·obtain⟨ws,QD,r,q,_⟩:=h;rw[<-r.length];exact len ws QD q
 ·obtain⟨ws,QD,r,q,kk⟩:=h;obtain⟨t,ht,hq⟩:=hbody cdv A outer s H ws QD E hr q;refine⟨_,ht.ps,H,_,_,DOk.begin r N,hq,λσ' H' σD' ok' p' q'=>kk .non H' (.val .none) ok'.same .non q',λv H' r' sm rp qr=>kk v H' r' sm rp qr,λ_ _ _ _ _ z=>z.elim,λ_ _ _ _ _ z=>z.elim⟩
end
def zl4:Sp:=λvs H Q _=>∃(p:Addr) (m:Int),vs = [.ref p,.int m]/\0<m/\m<10000000000000000000000000000000000000000000000000000000000000/\Pen H p/\∀(v:Int) H',0<=v->v<m->Pen H' p->But p H H'->Q (.int v) H'
def y9:DSp:=λws Q=>∃m:Int,ws = [.pen,.val (.int m)]/\0<m/\m<10000000000000000000000000000000000000000000000000000000000000/\∀v:Int,0<=v->v<m->Q (.val (.int v))
theorem zrf{P:Program}{w:World}{K:PySem.W.Frag}{mg:Str->Option Value}{base:Heap}{k:Nat}{f:Addr}{fd:FuncData}{ps:List Str}(F:FnOk P w K mg base CX0 k f fd ps zl4):FnOk P w K mg base CX0 k f fd ps (y0 K y9):=by
 refine⟨λvs H Q E h=>?_,λA outer s H args us vs Q E hr e0 hb hv hs=>?_⟩
 ·obtain⟨ws,QD,rw',⟨m,rfl,hm,hM,q⟩,kk⟩:=h
  cases rw' with
  |cons r1 t=>cases t with
   |cons r2 t=>
    cases t;obtain⟨p,rfl,hp⟩:=r1;have r2:Rep K H (.int m) _:=r2
    cases r2;exact F.len [.ref p,.int m] (upd H p (.lst [.int 0,.int 0,.int 0])) (λ_ _=>True) E ⟨p,m,rfl,hm,hM,⟨0,0,0,zm⟩,λ_ _ _ _ _ _=>trivial⟩
 ·obtain⟨ws,QD,rw',⟨m,rfl,hm,hM,q⟩,kk⟩:=hs
  cases rw' with
  |cons r1 t=>cases t with
   |cons r2 t=>
    cases t;obtain⟨p,rfl,hp⟩:=r1;have r2:Rep K H (.int m) _:=r2
    cases r2;obtain⟨⟨x,y,z,tx,ty,tz,n,e⟩,_,_⟩:=e0.hok p _ hp;have mu:Mut (H p):=by rw[hp];exact trivial
    have hok1:HOk P w (upd H p (.lst [.int x,.int y,.int z])) s.heap:=e0.hok.write (h':=s.heap) mu (.inl rfl) (λb u _ q=>q) ⟨_,e⟩ ⟨by show 3<=sizeLine;decide,[_,_,_],n,.cons ⟨_,rfl⟩ (.cons ⟨_,rfl⟩ (.cons ⟨_,rfl⟩ .nil)),e⟩;have nn:∀b,H b=none->b≠p:=λb h z=>by rw[z,hp]at h;cases h
    have e1:Env0 P w K mg base A outer s (upd H p (.lst [.int x,.int y,.int z])):=⟨e0.frames,e0.mod,λb o h=>⟨(e0.bs b o h).1,by rw[zh (nn b (e0.bs b o h).2)];exact(e0.bs b o h).2⟩,e0.bsz,e0.funs,λb hb=>by rw[zh (nn b (e0.frf b hb))];exact e0.frf b hb,hok1,e0.bare⟩
    refine codeAny_mono (F.run A outer s _ args us [.ref p,.int m] (λv H'=>∃i,v=.int i/\0<=i/\i<m/\Pen H' p/\But p (upd H p (.lst [.int x,.int y,.int z])) H') E hr e1 hb hv ⟨p,m,rfl,hm,hM,⟨x,y,z,zm⟩,λv H' h1 h2 h3 h4=>⟨v,rfl,h1,h2,h3,h4⟩⟩) λr s' z=>?_
    cases r with
    |error e=>exact z
    |ok fl=>
     cases fl with
     |ret u=>
      obtain⟨v,H',os,bare,un,hok',rv,i,rfl,h1,h2,⟨a',b',c',hp'⟩,bt⟩:=z;obtain⟨zz,its,n',r',e'⟩:=hok' p _ hp';have pk:∃(x y z:Int) (tx ty tz:Tok),its = [.int x tx,.int y ty,.int z tz]:=by
       cases r' with
       |cons r1 r=>cases r with
        |cons r2 r=>cases r with
         |cons r3 r=>
          cases r;obtain⟨t1,rfl⟩:=r1;obtain⟨t2,rfl⟩:=r2;obtain⟨t3,rfl⟩:=r3;exact⟨_,_,_,_,_,_,rfl⟩
      obtain⟨x',y',z',tx',ty',tz',rfl⟩:=pk;have np:∀{b:Addr}{u:HO},H b=some u->u≠za3 p->b≠p:=λ{b u} h n z=>by rw[z,hp]at h;cases h;exact n rfl
      have hpen:∀{b:Addr},b≠p->upd H' p (za3 p) b=H' b:=λh=>zh h;refine⟨.int i,upd H' p (za3 p),os,bare,⟨λb o h n'=>un.keep b o h (by rw[zh (nn b n')];exact n'),λb o h n'=>un.slot b o h (by rw[zh (nn b n')];exact n'),λb o h n' hx=>?_,un.there,λb xs h=>?_,λb o u h=>?_,λb ps h=>?_⟩,?_,rv,kk (.int i) _ (.val (.int i)) (λb o h=>?_) (show Rep K _ (.int i) (.int i) from .int) (q i h1 h2)⟩
      ·rw[hpen (nn b n')];exact un.free b o h (by rw[zh (nn b n')];exact n') hx
      ·have nb:=np h (by unfold za3;intro z;cases z);rw[hpen nb];exact un.tups b xs (by rw[zh nb];exact h)
      ·have nb:=np h (by unfold za3;intro z;cases z);rw[hpen nb];exact un.frzs b o u (by rw[zh nb];exact h)
      ·have nb:=np h (by unfold za3;intro z;cases z);obtain⟨more,e2⟩:=un.tbls b ps (by rw[zh nb];exact h);exact⟨more,by rw[hpen nb];exact e2⟩
      ·exact hok'.write (h':=s'.heap) (by rw[hp'];exact trivial) (.inl rfl) (λb u _ q=>q) ⟨_,e'⟩ (zh8 e')
      ·by_cases hb:b=p
       ·subst hb;rw[hp]at h
        cases h;exact zm
       ·rw[zh hb];exact bt b o hb (by rw[zh hb];exact h)
     |next=>exact z
     |brk=>exact z
     |cont=>exact z
section
variable {prog:Program}{w:World}{A:Around}{E:Value->Shared->Prop}{s:Shared}
theorem zdi{it t:Addr}{items:Array Value}(hne:t≠it):∀(n i:Nat) (s:Shared) (Q:List Value->Shared->Prop),s.heap.IsListIter it t i->s.heap.IsList t items->i+n<=items.size ->
  (∀h',h'.IsListIter it t (i+n)->Heap.SameBut it s.heap h'->Q ((items.toList.drop i).take n) { s with heap:=h' })->wpAny (model prog w) A (draw (.ref it) n) Q E s
 |0,i,s,Q,hit,_,_,hQ=>by
  show wpAny _ _ (pure []) Q E s;exact wpAny_pure (by simpa using hQ s.heap hit (Heap.SameBut.refl ..))
 |n+1,i,s,Q,hit,ht,hle,hQ=>by
  have hlt:i<items.size:=by omega
  show wpAny _ _ (pyNext (.ref it) >>= _) Q E s;refine wpAny_bind (wpAny_pyNext_list_item hit ht (x:=items[i]) (by simp[hlt]) λh₁ hit₁ hs₁=>?_);have ht1:h₁.IsList t items:=by obtain⟨o,e,r⟩:=ht;exact⟨o,(hs₁.2 t hne).trans e,r⟩
  refine wpAny_bind (wpAny_holding (zdi hne n (i+1) _ _ hit₁ ht1 (by omega) λh₂ hit₂ hs₂=>wpAny_pure ?_));have hd:items.toList.drop i=items[i]::items.toList.drop (i+1):=by simp[List.drop_eq_getElem_cons,hlt]
  have:=hQ h₂ (by rw[show i+(n+1)=i+1+n by omega];exact hit₂) (hs₁.trans hs₂);rw[hd,List.take_succ_cons]at this;exact this
theorem za6{t:Addr}{items:Array Value}{Q:List Value->Shared->Prop}(hh:A.handled=none)(ht:s.heap.IsList t items)
  (hQ:∀h',Heap.ExtBut s.heap.objs.size s.heap h'->Q items.toList { s with heap:=h' }):wpAny (model prog w) A (unpackItems (.ref t) items.size none) Q E s:=by
 have hlt:t≠s.heap.objs.size:=by obtain⟨o,ho,_⟩:=ht;exact Nat.ne_of_lt (Heap.lt_size ho)
 have push:∀o:Obj,(s.heap.push o).IsList t items:=λo=>by obtain⟨o',e,r⟩:=ht;exact⟨o',Heap.get?_push_of_some _ e,r⟩
 unfold unpackItems;refine wpAny_bind ?_
 ·unfold notIterableAtAll;refine wpAny_bind (wpAny_specialOf ht.typeIs slot_list_iter.lookup ?_);refine wpAny_pure ?_;simp only[Bool.false_eq_true,if_false];refine wpAny_bind (wpAny_holding (wpAny_pyIter_list ht ?_));refine wpAny_bind (wpAny_holding (zdi hlt items.size 0 _ _ ⟨_,Heap.get?_push_size _ rfl,rfl,rfl⟩ (push _) (by omega) λh₁ hit₁ hs₁=>?_))
  have hall:List.take items.size (List.drop 0 items.toList)=items.toList:=by
   rw[List.drop_zero];exact List.take_of_length_le (by simp)
  rw[hall];rw[if_neg (by simp)];have ht₁:h₁.IsList t items:=by obtain⟨o',e,r⟩:=push { cls:=.type "list_iterator",data:=.fields #[.ref t,.int 0 0] };exact⟨o',(hs₁.2 t hlt).trans e,r⟩
  refine wpAny_bind (wpAny_holding (wpAny_pyNext_list_end hh hit₁ ht₁ (by simp) λh₂ he₂=>?_));simp only[Option.isSome_none,Bool.false_eq_true,if_false];refine wpAny_pure (hQ h₂ λb o hb e=>he₂ b o hb (hs₁.extBut b o hb (Heap.get?_push_of_some _ e)))
theorem zai{env:Env}{elts:List Expr}{x1}{pos:Pos}{t:Addr}{items:Array Value}{Q:Unit->Shared->Prop}(hh:A.handled=none)(ht:s.heap.IsList t items)
  (hn:(assignEach elts env).length=items.size) (hstar:(assignEach elts env).findIdx? (·.1)=none)
  (h:∀h',Heap.ExtBut s.heap.objs.size s.heap h'->wpAny (model prog w) A (assignInOrder ((assignEach elts env).map (·.2)) items.toList) Q E { s with heap:=h' }) :
  wpAny (model prog w) A (assign (.Tuple elts x1 pos) env (.ref t)) Q E s:=by
 rw[assign_Tuple];refine wpAny_bind (wpAny_standAt ?_);unfold unpack;rw[hn,hstar];exact wpAny_bind (wpAny_holding (za6 hh ht h))
end
section
variable {X:Cx}{tg iter e:Expr}{es:List Expr}{te:DTE}{tf:DTF}{p pos:Pos}
def zih(n:Nat)(gs:zej):DTG:=λd σ Q=>match d with
 |.tuple xs=>xs.length=n/\gs xs σ Q
 |.list xs=>xs.length=n/\gs xs σ Q
 |_=>False
theorem xk{k:Nat}{is:List Nat}{gs:zej}{n:Nat}(hc:X.calm=true)(h:DGs X es is gs)(hn:(assignEach es X.env).length=n:=by rfl)(hst:(assignEach es X.env).findIdx? (·.1)=none:=by rfl):DG X (.Tuple es k pos) is (zih n gs):=⟨λpins s σ H H₀ σD v u d Q I ok r rp q=>by
 cases d with
 |tuple xs=>exact(zq9 (k:=k) (pos:=pos) hc h hn hst).run pins s σ H H₀ σD v u _ Q I ok r rp q
 |list xs=>
  obtain⟨hl,q⟩:=q
  cases rp with
  |lst hq rr=>
   cases r;obtain⟨its,rv,ht,hz⟩:=I.list (.inl (.inr ⟨_,hq⟩));refine zai (I.ok.hd hc) ht.isList (by simp[hn,<-hl,<-rv.length,rr.length]) hst λh' hx=>?_;have I1:Inv X pins σ H { s with heap:=h' }:=I.kept (t':=s.toks) λb o e=>hx b o (Nat.ne_of_lt (Heap.lt_size e)) e;exact h.run pins _ σ H H₀ σD _ _ xs Q I1 ok (by simpa using rv) rr q
 |_=>exact q.elim⟩
variable {elt:Expr}{ifs:List Expr}{scope:Scope}{cl:List (Str×Addr)}{N' capt:List Str}{k:Nat}{js is:List Nat}{ti:DTF}{g:DTG}{tt:DTT}
theorem zjx{i:Nat}{x:Str}{pos' spos:Pos}(hN:X.N.Nodup)(hi':X.N[i]?=some x)(hx:Loc X.env.scope x)(hc:X.calm=true)(L:zcz X scope cl N' capt k js)
  (hi:DIw X tg iter ti) (hg:∀C fp s2 H2,DG (ye X N' scope cl C fp s2 H2) tg is g) (ht:∀C fp s2 H2,DTs (ye X N' scope cl C fp s2 H2) ifs tt) (he:∀C fp s2 H2,DE (ye X N' scope cl C fp s2 H2) elt te)
  (his:∀j∈is,j<k) (hsw:swapsWith (.ListComp elt [⟨tg,iter,ifs,0⟩] scope pos) (some (.Name x pos')) spos.line X.env=pure true) (hs:∀x,foldedSetIterable iter X.env x=pure x) (hf:X.fn x=true\/X.env.scope.names.lookup x=some .local)
  {pins:List (Addr×Obj)}{s:Shared}{σ:St}{H H₀:Hp}{σD:DSt}{Q:List D->Prop} (I:Inv X pins σ H s) (ok:DOk X.K H₀ H σD σ) (q:dLC k js ti g tt te σD Q) :
  wpAny (model X.prog X.w) X.A (exec (.Assign [.Name x pos'] (.ListComp elt [⟨tg,iter,ifs,0⟩] scope pos) spos) X.env) (λf s'=>f=.next/\∃a H' vs xs,Inv X pins (σ.set i (some (.ref a))) H' s'/\Same H H'/\H a=none/\H' a=some (.lst vs)/\Reps X.K H' xs vs/\Q xs) X.xe s:=by
 refine thn (zlb (wi:=cnI X.K Same ti) (g:=cnG X.K is g) (tt:=cnT X.K tt) (te:=cnE X.K te) hN hi' hx hc L hi.pi (λC fp s2 H2=>(hg C fp s2 H2).pg) (λC fp s2 H2=>(ht C fp s2 H2).pts) (λC fp s2 H2=>(he C fp s2 H2).pe) hsw hs hf pins s σ H
  { nx:=λσ' H'=>∃a vs xs,σ'=σ.set i (some (.ref a))/\Same H H'/\H a=none/\H' a=some (.lst vs)/\Reps X.K H' xs vs/\Q xs,rt:=λ_ _=>False } I ?_) λf s' z=>?_
 ·refine⟨H₀,σD,_,ok,q,λJ H1 ds s1 it q1 Dd hn=>?_⟩
  have z:=zfs (k:=k) (js:=js) (is:=is) (gL:=cnG X.K is g) (Dd:=Dd) (ok.after s1) it q1.1 (λd v σ' H' Q σ0 ok0 r0 q0=>⟨H1,σ0,d,Q,ok0,r0,q0,λσ2 σD2 l2 ok2 f2 q2=>⟨rfl,l2,f2,σD2,ok2,q2⟩⟩)
   (λv σ' H' Q Q' m zq7=>by obtain⟨a,b,c,d,e1,e2,e3,e4⟩:=zq7;exact⟨a,b,c,d,e1,e2,e3,λσ2 σD2 l o f q=>m _ _ (e4 σ2 σD2 l o f q)⟩) his hn q1.2
  obtain⟨W,w0,turn⟩:=z;refine⟨W,w0,λi m σ' H' w=>?_⟩;rcases turn i m σ' H' w with⟨st,aa,vs,xs,e,sm,n,e2,r,qd⟩|h
  ·exact .inl ⟨st,aa,vs,xs,by rw[e],s1.trans sm,s1.free n,e2,r,qd⟩
  ·exact .inr h
 ·cases f with
  |next=>obtain⟨σ',H',I',a,vs,xs,rfl,sm,n,e,r,q⟩:=z;exact⟨rfl,a,H',vs,xs,I',sm,n,e,r,q⟩
  |ret u=>obtain⟨_,_,_,_,_,z⟩:=z;exact z.elim
  |brk=>obtain⟨_,_,_,z⟩:=z;exact z.elim
  |cont=>obtain⟨_,_,_,z⟩:=z;exact z.elim
theorem zl5{i:Nat}{x:Str}{pos' spos:Pos}(hN:X.N.Nodup)(hi':X.N[i]?=some x)(hx:Loc X.env.scope x)(hc:X.calm=true)(L:zcz X scope cl N' capt k js)
  (hi:DIw X tg iter ti) (hg:∀C fp s2 H2,DG (ye X N' scope cl C fp s2 H2) tg is g) (ht:∀C fp s2 H2,DTs (ye X N' scope cl C fp s2 H2) ifs tt) (he:∀C fp s2 H2,DE (ye X N' scope cl C fp s2 H2) elt te)
  (his:∀j∈is,j<k:=by decide) (hsw:swapsWith (.ListComp elt [⟨tg,iter,ifs,0⟩] scope pos) (some (.Name x pos')) spos.line X.env=pure true:=by rfl) (hs:∀x,foldedSetIterable iter X.env x=pure x:=by intro _;rfl) (hf:X.fn x=true\/X.env.scope.names.lookup x=some .local:=by first|exact .inl rfl|exact .inr rfl|assumption) :
  DS X (.Assign [.Name x pos'] (.ListComp elt [⟨tg,iter,ifs,0⟩] scope pos) spos) (zl0 i (dFz (dLC k js ti g tt te))):=⟨λpins s σ H H₀ σD Dn I ok q=>by
 refine thn (zjx hN hi' hx hc L hi hg ht he his hsw hs hf I ok q) λf s' ⟨ef,a,H',vs,xs,I',sm,n,e,r,qd⟩=>?_;subst ef;obtain⟨H'',J,sm',r'⟩:=za5 I' sm n e r;exact⟨_,H'',_,J,(ok.after sm').setV r' i,sm'.pers,qd⟩⟩
inductive RepRs(K:PySem.W.Frag):Hp->Hp->List Ret->List V->Prop
 |nil {H H':Hp} (s:Same H H'):RepRs K H H' [] []
 |val {H H1 H':Hp}{d:D}{v:V}{rs:List Ret}{vs:List V} (s:Same H H1) (r:Rep K H1 d v) (t:RepRs K H1 H' rs vs):RepRs K H H' (.val d::rs) (v::vs)
 |new {H H1 H':Hp}{xs:List D}{a:Addr}{ws:List V}{rs:List Ret}{vs:List V} (s:Same H H1) (n:H a=none) (e:H1 a=some (.lst ws)) (r:Reps K H1 xs ws) (t:RepRs K H1 H' rs vs):RepRs K H H' (.new xs::rs) (.ref a::vs)
theorem RepRs.more{K:PySem.W.Frag}{H H':Hp}{rs:List Ret}{vs:List V}(h:RepRs K H H' rs vs){H2:Hp}(s2:Same H' H2):RepRs K H H2 rs vs:=by
 induction h with
 |nil s=>exact .nil (s.trans s2)
 |val s r _ ih=>exact .val s r (ih s2)
 |new s n e r _ ih=>exact .new s n e r (ih s2)
theorem RepRs.length{K:PySem.W.Frag}{H H':Hp}{rs:List Ret}{vs:List V}(h:RepRs K H H' rs vs):rs.length=vs.length:=by
 induction h with
 |nil s=>rfl
 |val s _ _ ih=>simp[ih]
 |new s _ _ _ _ ih=>simp[ih]
def Ret.w:Ret->W
 |.val d=>.val d
 |.new xs=>.own (.lst xs)
def zpe:List Nat->List V->St->St
 |i::is,v::vs,σ=>zpe is vs (σ.set i (some v))
 |_,_,σ=>σ
abbrev DTM:=DSt->(List Ret->Prop)->Prop
structure DM(X:Cx)(es:List Expr)(t:DTM):Prop where
 run:∀(pos:Pos) (pins:List (Addr×Obj)) (s:Shared) (σ:St) (H H₀:Hp) (σD:DSt) (Q:List Ret->Prop),Inv X pins σ H s->DOk X.K H₀ H σD σ->t σD Q ->
  wpAny (model X.prog X.w) X.A (spliced (backTo pos (starEach es X.env))) (λus s'=>∃vs H' rs,Inv X pins σ H' s'/\Vals vs us/\RepRs X.K H H' rs vs/\Q rs) X.xe s
structure DGN(X:Cx)(es:List Expr)(is:List Nat):Prop where
 pgs:PGs X es (λvs σ H Q=>vs.length=is.length/\Q (zpe is vs σ) H)
section
variable {pins:List (Addr×Obj)}{σ:St}{H:Hp}{s:Shared}
mutual
theorem RepN.reads(I:Inv X pins σ H s):∀{d:D}{v:V}{u:Value},RepN X.K H d v->RelV v u->∃as,Reads s.heap u d as
 |_,_,_,.non,r=>by cases r;exact⟨_,.none⟩
 |_,_,_,.bl,r=>by cases r;exact⟨_,.bool _⟩
 |_,_,_,.int,r=>by obtain⟨t,rfl⟩:=r;exact⟨_,.int _ _⟩
 |_,_,_,.str,r=>by obtain⟨t,rfl⟩:=r;exact⟨_,.str _ _⟩
 |_,_,_,.tup h q,r=>by
  cases r;obtain⟨its,rv,⟨o,e1,e2,n,e3⟩,_⟩:=I.tuple h;obtain⟨as,ra⟩:=RepNs.reads I q rv;exact⟨_,.tuple e1 e2 e3 (by simpa using ra)⟩
 |_,_,_,.lst h q,r=>by
  cases r;obtain⟨z,its,n,rv,e⟩:=h.ok I.hok;obtain⟨as,ra⟩:=RepNs.reads I q rv;exact⟨_,.list e rfl rfl (by simpa using ra)⟩
theorem RepNs.reads(I:Inv X pins σ H s):∀{ds:List D}{vs:List V}{us:List Value},RepNs X.K H ds vs->Vals vs us->∃as,ReadsAll s.heap us ds as
 |_,_,_,.nil,r=>by cases r;exact⟨_,.nil⟩
 |_,_,_,.cons q t,r=>by
  cases r with
  |cons r1 r2=>
   obtain⟨as,ra⟩:=RepN.reads I q r1;obtain⟨bs,rb⟩:=RepNs.reads I t r2;exact⟨_,.cons ra rb⟩
end
end
def zs0(X:Cx)(pins:List (Addr×Obj))(σ:St)(H:Hp)(Q:D->Prop)(u:Value)(s':Shared):Prop:=∃v H' d,Inv X pins σ H' s'/\RelV v u/\Same H H'/\RepN X.K H' d v/\Q d
structure DN(X:Cx)(e:Expr)(t:DTE):Prop where
 run:∀(pins:List (Addr×Obj)) (s:Shared) (σ:St) (H H₀:Hp) (σD:DSt) (Q:D->Prop),Inv X pins σ H s->DOk X.K H₀ H σD σ->t σD Q->wpAny (model X.prog X.w) X.A (eval e X.env) (zs0 X pins σ H Q) X.xe s
structure DAn(X:Cx)(es:List Expr)(t:DTF):Prop where
 run:∀(pos:Pos) (pins:List (Addr×Obj)) (s:Shared) (σ:St) (H H₀:Hp) (σD:DSt) (Q:List D->Prop),Inv X pins σ H s->DOk X.K H₀ H σD σ->t σD Q ->
  wpAny (model X.prog X.w) X.A (spliced (backTo pos (starEach es X.env))) (λus s'=>∃vs H' ds,Inv X pins σ H' s'/\Vals vs us/\Same H H'/\RepNs X.K H' ds vs/\Q ds) X.xe s
def cnN(K:PySem.W.Frag)(t:DTE):TE:=λσ H Q=>∃H₀ σD QD,DOk K H₀ H σD σ/\t σD QD/\∀v H' d,Same H H'->RepN K H' d v->QD d->Q v H'
def zt4(K:PySem.W.Frag)(t:DTF):TA:=λσ H Q=>∃H₀ σD QD,DOk K H₀ H σD σ/\t σD QD/\∀vs H' ds,Same H H'->RepNs K H' ds vs->QD ds->Q vs H'
theorem DN.pe{t:DTE}(h:DN X e t):PE X e (cnN X.K t):=λpins s σ H Q I zq63=>by obtain⟨H₀,σD,QD,ok,q,k⟩:=zq63;exact thn (h.run pins s σ H H₀ σD QD I ok q) λu s' zq50=>by obtain⟨v,H',d,I',r,sm,rp,qd⟩:=zq50;exact⟨v,H',I',r,k v H' d sm rp qd⟩
theorem DAn.pa{t:DTF}(h:DAn X es t):PA X es (zt4 X.K t):=λpos pins s σ H Q I zq68=>by obtain⟨H₀,σD,QD,ok,q,k⟩:=zq68;exact thn (h.run pos pins s σ H H₀ σD QD I ok q) λus s' zq63=>by obtain⟨vs,H',ds,I',r,sm,rp,qd⟩:=zq63;exact⟨vs,H',I',r,k vs H' ds sm rp qd⟩
theorem DN.of{t:DTE}{t':TE}(h:PE X e t')(k:∀σ H H₀ σD QD,DOk X.K H₀ H σD σ->t σD QD->t' σ H (λv H'=>∃d,Same H H'/\RepN X.K H' d v/\QD d)):DN X e t :=
 ⟨λpins s σ H H₀ σD Q I ok q=>thn (h pins s σ H _ I (k σ H H₀ σD Q ok q)) λu s' zq80=>by obtain⟨v,H',I',r,d,sm,rp,qd⟩:=zq80;exact⟨v,H',d,I',r,sm,rp,qd⟩⟩
def zrg(t:DTE):DTE:=λσ Q=>t σ λd=>d.canLay0=true/\Q d
theorem zrh{d:D}(c:d.canLay0=true):∀kvs,d ≠ .dict kvs:=λkvs e=>by subst e;simp[PyData.canLay0]at c
theorem DE.dn{t:DTE}(h:DE X e t):DN X e (zrg t):=⟨λpins s σ H H₀ σD Q I ok q=>thn (h.run pins s σ H H₀ σD _ I ok q) λu s' zq35=>by obtain⟨v,H',d,I',r,sm,rp,qd⟩:=zq35;exact⟨v,H',d,I',r,sm,rp.now (zrh qd.1) qd.1,qd.2⟩⟩
theorem jb:DAn X [] zlf:=⟨λpos pins s σ H H₀ σD Q I ok q=>thn (xp pos pins s σ H (λvs H'=>vs = []/\H'=H) I ⟨rfl,rfl⟩) λus s' zq49=>by obtain⟨vs,H',I',r,e1,e2⟩:=zq49;subst e1 e2;exact⟨[],H',[],I',r,Same.refl _,.nil,q⟩⟩
theorem vo{t:DTE}{r:DTF}(ha:DN X e t)(hr:DAn X es r)(hs:starEach (e::es) X.env=(false,eval e X.env)::starEach es X.env:=by rfl):DAn X (e::es) (zfq t r):=⟨λpos pins s σ H H₀ σD Q I ok q=>by
 refine thn (yo ha.pe hr.pa hs pos pins s σ H (λvs H'=>∃ds,Same H H'/\RepNs X.K H' ds vs/\Q ds) I ?_) λus s' zq20=>by obtain⟨vs,H',I',r,ds,sm,rp,qd⟩:=zq20;exact⟨vs,H',ds,I',r,sm,rp,qd⟩
 exact⟨H₀,σD,_,ok,q,λv H1 d s1 r1 q1=>⟨H₀,σD,_,ok.after s1,q1,λvs H2 ds s2 r2 q2=>⟨d::ds,s1.trans s2,.cons (r1.same s2) r2,q2⟩⟩⟩⟩
theorem RepNs.length{K:PySem.W.Frag}{H:Hp}:∀{ds:List D}{vs:List V},RepNs K H ds vs->ds.length=vs.length
 |_,_,.nil=>rfl
 |_,_,.cons _ t=>by simp[t.length]
end
section
variable {X:Cx}{tg iter e:Expr}{es:List Expr}{te:DTE}{tf:DTF}{p pos:Pos}
end
section
variable {prog:Program}{w:World}{A:Around}{E:Value->Shared->Prop}{s:Shared}
end
section
variable {X:Cx}{a:Expr}{t:DTF}{p pos:Pos}
end
theorem wv{α:Type}{f:D->(Option D->Prop)->Prop}(enc:α->D)(F:α->Option D){as:List α}{Q:List D->Prop}(h:∀a∈as,∀k:Option D->Prop,k (F a)->f (enc a) k)(q:Q (as.filterMap F)):lcD f (as.map enc) Q:=by
 induction as generalizing Q with
 |nil=>exact q
 |cons a as ih=>
  refine h a List.mem_cons_self _ (ih (λe he=>h e (List.mem_cons_of_mem _ he)) ?_);rw[List.filterMap_cons]at q
  cases e:F a with
  |none=>rw[e]at q;exact q
  |some y=>rw[e]at q;exact q
theorem zb8{α:Type}{f:D->(Option D->Prop)->Prop}(enc:α->D)(F:α->D){as:List α}{Q:List D->Prop}(h:∀a∈as,∀k:Option D->Prop,k (some (F a))->f (enc a) k)(q:Q (as.map F)):lcD f (as.map enc) Q :=
 wv enc (λa=>some (F a)) h (by rw[List.filterMap_eq_map'];exact q)
theorem zii{α:Type}{Pv:α->Prop}{enc:α->D}:∀{ys:List D},(∀y∈ys,∃a,y=enc a/\Pv a)->∃as:List α,ys=as.map enc/\∀a∈as,Pv a
 |[],_=>⟨[],rfl,λa ha=>by cases ha⟩
 |y::ys,h=>by
  obtain⟨a,rfl,pa⟩:=h y List.mem_cons_self;obtain⟨as,rfl,pas⟩:=zii λz hz=>h z (List.mem_cons_of_mem _ hz);exact⟨a::as,rfl,λb hb=>by rcases List.mem_cons.mp hb with rfl|hb;exact pa;exact pas b hb⟩
theorem zb9{α:Type}(x:α)(xs:List α):atI (x::xs) 0=some x:=by
 have:=h7 (xs:=x::xs) (j:=0) (v:=x) rfl;simpa using this
theorem qa{α:Type}(x y:α)(xs:List α):atI (x::y::xs) 1=some y:=by
 have:=h7 (xs:=x::y::xs) (j:=1) (v:=y) rfl;simpa using this
theorem zpf{xs:List D}{k:Int}{Q:D->Prop}(h0:0<=k)(h1:k<xs.length)(h:∀x∈xs,Q x):∃d,atI xs k=some d/\Q d:=by
 obtain⟨v,e,m⟩:=zle h0 h1;exact⟨v,e,h v m⟩
theorem zpg{ns:List Int}{k lo hi:Int}{Q:D->Prop}(h0:0<=k)(h1:k<ns.length)(hb:∀n∈ns,lo<=n/\n<=hi)(h:∀n:Int,lo<=n->n<=hi->Q (.int n)):∃d,atI (ns.map PyData.int) k=some d/\Q d :=
 zpf h0 (by simpa using h1) λx hx=>by
  obtain⟨n,hn,rfl⟩:=List.mem_map.mp hx;exact h n (hb n hn).1 (hb n hn).2
theorem zg5{α:Type}(enc:α->D)(xs:List α)(lo hi:Option Int):∃ys:List α,v5 (xs.map enc) lo hi=ys.map enc/\(∀y∈ys,y∈xs)/\ys.length<=xs.length:=by
 refine⟨(xs.drop (HT.sIx xs.length 0 lo)).take (HT.sIx xs.length xs.length hi-HT.sIx xs.length 0 lo),?_,λy hy=>List.mem_of_mem_drop (List.mem_of_mem_take hy),?_⟩
 ·unfold v5;rw[List.length_map,List.map_take,List.map_drop]
 ·rw[List.length_take,List.length_drop];omega
structure Sh(d:D)(n k:Nat):Prop where
 can:d.canLay0=true
 sho:d.showable=true
 dep:d.depth<=k
 len:d.shown.length<=n
theorem Sh.mono{d:D}{n k n' k':Nat}(h:Sh d n k)(h1:n<=n')(h2:k<=k'):Sh d n' k':=⟨h.can,h.sho,Nat.le_trans h.dep h2,Nat.le_trans h.len h1⟩
theorem Sh.none:Sh .none 4 0:=⟨rfl,rfl,Nat.le_refl _,Nat.le_of_ble_eq_true rfl⟩
theorem Sh.bool{b:Bool}:Sh (.bool b) 5 0:=⟨rfl,rfl,Nat.le_refl _,by cases b <;> exact Nat.le_of_ble_eq_true rfl⟩
theorem zri{i:Int}(h:i.natAbs<10 ^ 40):i.natAbs.log2<1920:=by
 by_cases h0:i.natAbs=0
 ·rw[h0];decide
 ·exact(Nat.log2_lt h0).mpr (Nat.lt_of_lt_of_le h (Nat.le_trans (by decide:10 ^ 40<=2 ^ 200) (Nat.pow_le_pow_right (by decide) (by decide))))
theorem Sh.int{i:Int}(h:i.natAbs<10 ^ 40):Sh (.int i) 41 0 :=
 ⟨rfl,by simp only[PyData.showable];exact decide_eq_true (zri h),Nat.le_refl _,by
  have:=int_text_length_le10 (a:=i) (k:=40) (by decide) h;simp only[PyData.shown];show(Str.ofString (toString i)).length<=41;rw[PySem.ofString_length];exact this⟩
theorem Sh.intB{i:Int}(h1 : -1000000000000000000000000000000000000000<=i)(h2:i<=1000000000000000000000000000000000000000):Sh (.int i) 41 0:=Sh.int (by omega)
theorem za7:∀{xs:List D}{n k:Nat},(∀x∈xs,Sh x n k)->PyData.canLayAll0 xs=true
 |[],_,_,_=>rfl
 |x::xs,n,k,h=>by simp only[PyData.canLayAll0,(h x List.mem_cons_self).can,za7 λy hy=>h y (List.mem_cons_of_mem _ hy),Bool.and_self]
theorem za8:∀{xs:List D}{n k:Nat},(∀x∈xs,Sh x n k)->PyData.showableAll xs=true
 |[],_,_,_=>rfl
 |x::xs,n,k,h=>by simp only[PyData.showableAll,(h x List.mem_cons_self).sho,za8 λy hy=>h y (List.mem_cons_of_mem _ hy),Bool.and_self]
theorem za9:∀{xs:List D}{n k:Nat},(∀x∈xs,Sh x n k)->PyData.depthAll xs<=k
 |[],_,_,_=>Nat.zero_le _
 |x::xs,n,k,h=>by
  simp only[PyData.depthAll];exact Nat.max_le.mpr ⟨(h x List.mem_cons_self).dep,za9 λy hy=>h y (List.mem_cons_of_mem _ hy)⟩
theorem zba:∀{xs:List D}{n k:Nat},(∀x∈xs,Sh x n k)->((PyData.shownAll xs).map (·.length)).sum<=xs.length * n
 |[],_,_,_=>by simp[PyData.shownAll]
 |x::xs,n,k,h=>by
  simp only[PyData.shownAll,List.map_cons,List.sum_cons,List.length_cons];have h1:=(h x List.mem_cons_self).len;have h2:=zba λy hy=>h y (List.mem_cons_of_mem _ hy);rw[Nat.succ_mul];omega
theorem wk:∀xs:List D,(PyData.shownAll xs).length=xs.length
 |[]=>rfl
 |x::xs=>by simp only[PyData.shownAll,List.length_cons,wk xs]
theorem Sh.lst{xs:List D}{n k m:Nat}(h:∀x∈xs,Sh x n k)(hl:xs.length<=m):Sh (.list xs) (m *(n+2)+3) (k+1) where
 can:=by simpa[PyData.canLay0]using za7 h
 sho:=by simpa[PyData.showable]using za8 h
 dep:=by simp only[PyData.depth];have:=za9 h;omega
 len:=by
  simp only[PyData.shown];have h1:=listText_len_le (PyData.shownAll xs);have h2:=zba h;rw[wk]at h1;have h3:xs.length *(n+2)<=m *(n+2):=Nat.mul_le_mul_right _ hl;rw[Nat.mul_add]at h3;omega
theorem Sh.tup{xs:List D}{n k m:Nat}(h:∀x∈xs,Sh x n k)(hl:xs.length<=m):Sh (.tuple xs) (m *(n+2)+3) (k+1) where
 can:=by simpa[PyData.canLay0]using za7 h
 sho:=by simpa[PyData.showable]using za8 h
 dep:=by simp only[PyData.depth];have:=za9 h;omega
 len:=by
  simp only[PyData.shown];have h1:=tupleText_len_le (PyData.shownAll xs);have h2:=zba h;rw[wk]at h1;have h3:xs.length *(n+2)<=m *(n+2):=Nat.mul_le_mul_right _ hl;rw[Nat.mul_add]at h3;omega
theorem Sh.lay{d:D}{n k:Nat}(h:Sh d n k)(hk:k<=64):Lay d:=by
 unfold Lay SeqAt.shaped;rw[Bool.and_eq_true];exact⟨h.can,decide_eq_true (Nat.le_trans h.dep hk)⟩
theorem Sh.all{d:D}{n k:Nat}(h:Sh d n k)(hk:k<=64)(hn:n<=16777216):Lay d/\d.showable=true/\d.shown.length<=sizeLine:=⟨h.lay hk,h.sho,Nat.le_trans h.len (by rw[sizeLine_eq];exact hn)⟩
theorem Lay.int(i:Int):Lay (.int i):=rfl
theorem Lay.none:Lay .none:=rfl
theorem Lay.bool(b:Bool):Lay (.bool b):=rfl
theorem zfu(ns:List Int):Lay (.list (ns.map PyData.int)):=by
 have h:∀ns:List Int,PyData.canLayAll0 (ns.map PyData.int)=true/\PyData.depthAll (ns.map PyData.int)=0:=λns=>by
  induction ns with
  |nil=>exact⟨rfl,rfl⟩
  |cons n ns ih=>simp[PyData.canLayAll0,PyData.depthAll,PyData.canLay0,PyData.depth,ih.1,ih.2]
 unfold Lay SeqAt.shaped;simp[PyData.canLay0,PyData.depth,(h ns).1,(h ns).2]
theorem wu{m:Int}{Q:Ret->Prop}(h1:0<m)(h2:m<10000000000000000000000000000000000000000000000000000000000000)(q:∀v:Int,0<=v->v<m->Q (.val (.int v))):y9 [.pen,.val (.int m)] Q:=⟨m,rfl,h1,h2,q⟩
theorem yq{α:Type}{p:α->Prop}{a:α}{l:List α}(h:p a)(t:∀y∈l,p y):∀y∈a::l,p y:=λy hy=>(List.mem_cons.mp hy).elim (λe=>by rw[e];exact h) (t y)
theorem zbb{α:Type}{p:α->Prop}:∀y∈([]:List α),p y:=λy hy=>by cases hy
section
variable {X:Cx}
end
section
variable {X:Cx}
end
end L2
set_option maxHeartbeats 4000000
namespace PySem
section
variable {prog:Program}{w:World}{A:Around}{R:Result->Shared->Prop}{I:Addr}{fp wr:List Addr}{n:Nat}{P:Nat->Value->Prop}{St:Nat->Heap->Prop}
end
section
variable {prog:Program}{w:World}{A:Around}{E:Value->Shared->Prop}{s:Shared}{l:Addr}{its:Array Value}{d:Value}
end
section
variable {prog:Program}{w:World}{A:Around}{R:Result->Shared->Prop}{I:Addr}{fp wr:List Addr}{n:Nat}{P:Nat->Value->Prop}{St:Nat->Heap->Prop}
end
section
variable {prog:Program}{w:World}{A:Around}{E:Value->Shared->Prop}{s:Shared}{l:Addr}{its:Array Value}{d:Value}
end
end PySem
namespace L2
open PySem PySem.Spec PyProof.Rows
section
variable {X:Cx}{a d e:Expr}{ta:DTF}{td te:DTE}{p pos kp:Pos}
end
theorem atI_end{α:Type}(xs:List α)(x:α):atI (xs ++ [x]) (-1)=some x:=zfm xs x
theorem zfv(xs:List D){n:Int}(h:0<=n):v5 xs (some n) none=xs.drop n.toNat:=by
 obtain⟨k,rfl⟩:∃k:Nat,n=k:=⟨n.toNat,by omega⟩
 unfold v5;rw[HT.sIx_none,HT.sIx_nat,Int.toNat_natCast]
 by_cases c:k<=xs.length
 ·rw[Nat.min_eq_left c,List.take_of_length_le (by rw[List.length_drop];omega)]
 ·rw[Nat.min_eq_right (by omega),List.drop_eq_nil_of_le (by omega:xs.length<=k),List.drop_eq_nil_of_le (Nat.le_refl _),List.take_nil]
theorem zdj{α β:Type}(f:α->D)(g:β->D):∀(xs:List α) (ys:List β),qz (xs.map f) (ys.map g)=(xs.zip ys).map λp=>PyData.tuple [f p.1,g p.2]
 |[],_=>by simp[qz]
 |_::_,[]=>by simp[qz]
 |x::xs,y::ys=>by
  have:=zdj f g xs ys;simp only[qz]at this;simp[qz,this]
theorem zjy(xs ys:List Int):qz (xs.map PyData.int) (ys.map PyData.int)=(xs.zip ys).map λp=>PyData.tuple [.int p.1,.int p.2]:=zdj _ _ xs ys
theorem Lay.list{xs:List D}(h:∀x∈xs,Lay x/\x.depth<=63):Lay (.list xs):=by
 unfold Lay SeqAt.shaped;rw[Bool.and_eq_true];have h1:PyData.canLayAll0 xs=true:=by
  induction xs with
  |nil=>rfl
  |cons x xs ih=>
   simp only[PyData.canLayAll0,Bool.and_eq_true];exact⟨(h x List.mem_cons_self).1.can,ih λy hy=>h y (List.mem_cons_of_mem _ hy)⟩
 have h2:PyData.depthAll xs<=63:=by
  clear h1
  induction xs with
  |nil=>simp[PyData.depthAll]
  |cons x xs ih=>
   simp only[PyData.depthAll];have:=(h x List.mem_cons_self).2;have:=ih λy hy=>h y (List.mem_cons_of_mem _ hy);omega
 refine⟨by simpa[PyData.canLay0]using h1,decide_eq_true ?_⟩;simp only[PyData.depth];omega
theorem kh{g:DTG}{tb:DTS}{Dn:x4}{ds:List D}{σ:DSt}(S:DSt->Prop)(h0:S σ)(hs:∀d∈ds,∀σ (N:DSt->Prop),S σ->(∀σ',S σ'->N σ')->g d σ λσ2=>tb { Dn with nx:=N,ct:=N,bk:=Dn.nx } σ2)(hd:∀σ,S σ->Dn.nx σ):zc1 g tb Dn ds σ:=by
 refine we (λds' σ=>(∀d∈ds',d∈ds)/\S σ) ?_ (λσ h=>hd σ h.2) ⟨λ_ h=>h,h0⟩;rintro d ds' σ N ⟨h1,h2⟩ k;exact hs d (h1 d List.mem_cons_self) σ N h2 λσ' h'=>k σ' ⟨λx hx=>h1 x (List.mem_cons_of_mem _ hx),h'⟩
def zg6:D->(D->Prop)->Prop
 |.bool b,Q=>Q (.str (if b=true then "True" else "False"))
 |d,Q=>Lay d/\d.showable=true/\d.shown.length<=sizeLine/\Q (.str d.shown)
def zg7(t:DTF):DTE:=λσ Q=>t σ λds=>match ds with
 |[d]=>zg6 d Q
 |_=>False
section
variable {X:Cx}{e:Expr}{p pos:Pos}
theorem vr{k:Nat}{t:DTF}(hr:Room k X.A)(hg:Gl X "repr")(hm:X.mg "repr" = none)(hv:bootBuiltins "repr" = some (.builtin "repr"))(ha:DAn X [e] t)(he:starEach [e] X.env=(false,eval e X.env)::starEach [] X.env:=by rfl):DE X (.Call (.Name "repr" p) [e] [] pos) (zg7 t):=by
 have hc:wy X (.builtin "repr") (λvs H Q=>∃d v,vs = [v]/\RepN X.K H d v/\zg6 d λr=>∃x,r=.str x/\∀H',H'=H->Q (.str x) H'):=λpins s σ H xs us Q I rv ⟨d,v,e,r,q⟩=>by
  subst e;obtain⟨u,rfl,r1⟩:=rv.one;have gen:Lay d->d.showable=true->d.shown.length<=sizeLine->Q (.str d.shown) H->(∃a,u=.ref a)->wpAny (model X.prog X.w) X.A (call (.builtin "repr") [u]) (EP X pins σ Q) X.xe s:=λh1 h2 h3 h4 ⟨a,ea⟩=>by
   subst ea;obtain⟨as,rd⟩:=r.reads I r1;have hu:=hr.un;have hd:=h1.deep;refine repr_of_reads' rd h2 (PyData.noDict_hsm ?_) hr.gd (by omega) (λ_ _ e=>e) (λh' u tk hk=>⟨.str d.shown,H,I.kept hk,⟨_,rfl⟩,h4⟩) h3;exact PyData.hasDict_of_canLay _ h1.can
  cases r with
  |bl=>
   cases r1;obtain⟨x,e,q⟩:=q
   cases e;exact PySem.P.repr_of_bool ⟨.str _,H,I.tok _,⟨_,rfl⟩,q H rfl⟩
  |non=>
   cases r1;obtain⟨_,_,_,x,e,q⟩:=q
   cases e;exact PySem.P.repr_of_none ⟨.str _,H,I.tok _,⟨_,rfl⟩,q H rfl⟩
  |int=>
   obtain⟨t,rfl⟩:=r1;obtain⟨_,h2,_,x,e,q⟩:=q
   cases e;exact PySem.P.repr_of_int (of_decide_eq_true (by simpa[PyData.showable]using h2)) ⟨.str _,H,I.tok _,⟨_,rfl⟩,q H rfl⟩
  |str=>
   obtain⟨t,rfl⟩:=r1;obtain⟨_,_,h3,x,e,q⟩:=q
   cases e;exact PySem.P.repr_of_str ⟨.str _,H,I.tok _,⟨_,rfl⟩,q H rfl⟩ h3
  |tup h r=>
   obtain⟨h1,h2,h3,x,e,q⟩:=q
   cases e;exact gen h1 h2 h3 (q H rfl) ⟨_,by cases r1;rfl⟩
  |lst h r=>
   obtain⟨h1,h2,h3,x,e,q⟩:=q
   cases e;exact gen h1 h2 h3 (q H rfl) ⟨_,by cases r1;rfl⟩
 refine DE.of (vm hc hg hm hv ha.pa (by decide) (by decide) he rfl) λσ H H₀ σD QD ok q=>⟨H₀,σD,_,ok,q,λvs H1 ds s1 r1 q1=>?_⟩
 match ds,r1,q1 with
 |[d],r1,q1=>
  cases r1 with
  |cons r t=>
   cases t;refine⟨d,_,rfl,r,?_⟩
   cases d with
   |bool b=>exact⟨_,rfl,λH' e=>⟨_,by subst e;exact s1,.str,q1⟩⟩
   |_=>exact⟨q1.1,q1.2.1,q1.2.2.1,_,rfl,λH' e=>⟨_,by subst e;exact s1,.str,q1.2.2.2⟩⟩
end
theorem Sh.rep{d:D}{n k:Nat}{Q:D->Prop}(h:Sh d n k)(hk:k<=64)(hn:n<=16777216)(hb:∀b,d ≠ .bool b)(q:Q (.str d.shown)):zg6 d Q:=by
 obtain⟨h1,h2,h3⟩:=h.all hk hn
 cases d with
 |bool b=>exact absurd rfl (hb b)
 |_=>exact⟨h1,h2,h3,q⟩
end L2
namespace SQ
open PySem PyProof.Rows
set_option autoImplicit false
section
variable (prog:Program)(w:World)(A:Around)(s:Shared)(κ:KeyKind)(kd:SortKind)
def qb:Prop:=∀(E:Value->Shared->Prop) (x y:Value) (a b:κ.α) (Q:Bool->Shared->Prop),κ.keyOf x=some a->κ.keyOf y=some b->Q (κ.blt a b) s->wpAny (model prog w) A (keyLt' kd x y) Q E s
end
structure SG(kd:SortKind)(a₀:Array Keyed)(st:SortSt):Prop where
 perm:(arrOf st).Perm a₀
 kind:kindOf st=kd
 fail:failedOf st=none
theorem SG.sz{kd:SortKind}{a₀:Array Keyed}{st:SortSt}(g:SG kd a₀ st):(arrOf st).size=a₀.size:=g.perm.size_eq
theorem SG.arr{kd:SortKind}{a₀:Array Keyed}{st:SortSt}(g:SG kd a₀ st){xs:Array Keyed}(p:xs.Perm (arrOf st)):SG kd a₀ (setArr st xs):=⟨p.trans g.perm,g.kind,g.fail⟩
structure Mv(lo hi:Nat)(st st':SortSt):Prop where
 out:∀k,(k<lo\/hi<=k)->(arrOf st')[k]?=(arrOf st)[k]?
 pend:pendingOf st'=pendingOf st
theorem Mv.refl(lo hi:Nat)(st:SortSt):Mv lo hi st st:=⟨λ_ _=>rfl,rfl⟩
theorem Mv.trans{lo hi:Nat}{a b c:SortSt}(h1:Mv lo hi a b)(h2:Mv lo hi b c):Mv lo hi a c:=⟨λk hk=>(h2.out k hk).trans (h1.out k hk),h2.pend.trans h1.pend⟩
theorem Mv.mono{lo hi lo' hi':Nat}{a b:SortSt}(h:Mv lo hi a b)(h1:lo'<=lo)(h2:hi<=hi'):Mv lo' hi' a b:=⟨λk hk=>h.out k (by omega),h.pend⟩
abbrev Up(κ:KeyKind)(xs:Array Keyed)(lo n:Nat):Prop:=∀i j,lo<=i->i<=j->j<lo+n->κ.kle (KK κ xs i) (KK κ xs j)
abbrev Dn(κ:KeyKind)(xs:Array Keyed)(lo n:Nat):Prop:=∀i j,lo<=i->i<=j->j<lo+n->κ.kle (KK κ xs j) (KK κ xs i)
theorem jc{st:SortSt}{i j lo hi:Nat}(hj:j<=(arrOf st).size)(h1:lo<=i)(h2:j<=hi):Mv lo hi st (setArr st (mirror (arrOf st) i j ((j-i) / 2))) :=
 ⟨λk hk=>by
  show(mirror (arrOf st) i j ((j-i) / 2))[k]?=_;rw[getElem?_mirror_all hj,if_neg (by omega)],rfl⟩
section
variable {prog:Program}{w:World}{A:Around}{E:Value->Shared->Prop}{s:Shared}{κ:KeyKind}{kd:SortKind}{a₀:Array Keyed}
theorem SG.key{st:SortSt}(g:SG kd a₀ st)(h0:KeysOf κ a₀){i:Nat}(hi:i<a₀.size):∃x p,(arrOf st)[i]?=some (x,p)/\κ.keyOf x=some (KK κ (arrOf st) i):=by
 have l:i<(arrOf st).size:=by rw[g.sz];exact hi
 obtain⟨a,ha⟩:=h0 ((arrOf st)[i]) ((Array.perm_iff_toList_perm.mp g.perm).mem_iff.mp (by simp));have e:(arrOf st)[i]?=some (arrOf st)[i]:=getElem?_pos _ i l;refine⟨(arrOf st)[i].1,(arrOf st)[i].2,e,?_⟩;rw[ha];unfold KK;rw[e];simp[ha]
theorem zl6{st:SortSt}{x y:Keyed}{a b:κ.α}{Q:Option Bool->SortSt->Prop}(L:qb prog w A s κ kd)(hk:kindOf st=kd)(ha:κ.keyOf x.1=some a)(hb:κ.keyOf y.1=some b)(q:Q (some (κ.blt a b)) st):
  wpS (model prog w) A E s (lt' x y) Q st:=by
 rw[lt'_eq];refine wpS_bind (wpS_get ?_);rw[hk];exact wpS_bind (wpS_lift (wpAny_attempt (L _ x.1 y.1 a b _ ha hb ⟨rfl,wpS_pure q⟩)))
theorem yy{st:SortSt}{xs:Array Keyed}{i:Nat}{p:Keyed}{Q:Keyed->SortSt->Prop}(e:xs[i]?=some p)(q:Q p st):wpS (model prog w) A E s (elem' xs i) Q st:=by
 rw[elem'_eq,e];exact wpS_pure q
theorem zca{st:SortSt}{i j:Nat}{Q:Option Bool->SortSt->Prop}(L:qb prog w A s κ kd)(g:SG kd a₀ st)(h0:KeysOf κ a₀)(hi:i<a₀.size)(hj:j<a₀.size)
  (q:Q (some (κ.blt (KK κ (arrOf st) i) (KK κ (arrOf st) j))) st):wpS (model prog w) A E s (ltAt' i j) Q st:=by
 obtain⟨x,p,e1,k1⟩:=g.key h0 hi;obtain⟨y,r,e2,k2⟩:=g.key h0 hj;rw[ltAt'_eq];refine wpS_bind (wpS_get ?_);exact wpS_bind (yy e1 (wpS_bind (yy e2 (zl6 L g.kind k1 k2 q))))
theorem zij{st:SortSt}{i j:Nat}{Q:Unit->SortSt->Prop}(q:Q () (setArr st (mirror (arrOf st) i j ((j-i) / 2)))):wpS (model prog w) A E s (reverseSlice' i j) Q st:=by
 rw[reverseSlice'_eq];exact wpS_modify q
def zcb(lo a m:Nat):StateT SortSt Sem (Option (Option Nat)×Nat) :=
 forIn [a:m] ((none,a):Option (Option Nat)×Nat) λ_ c=>do
  let o <-ltAt' (lo+c.snd) (lo+c.snd-1)
  match o with
  |some less=>if less=true then pure (ForInStep.done (none,c.snd)) else pure (ForInStep.yield (none,c.snd+1))
  |_=>pure (ForInStep.done (some none,c.snd))
def zcc(lo n m:Nat):StateT SortSt Sem (Option Nat):=do
 reverseSlice' lo (lo+n)
 let c <-zcb lo n m
 match c.fst with
 |some r=>pure r
 |none=>pure (some c.snd)
def zen(lo n m:Nat):StateT SortSt Sem (Option (Option Nat)×Nat×Nat) :=
 forIn [n:m] ((none,n,0):Option (Option Nat)×Nat×Nat) λ_ c=>do
  let o <-ltAt' (lo+c.snd.fst) (lo+c.snd.fst-1)
  match o with
  |some less=>
   if less=true then
    if c.snd.snd > 0 then do
     reverseSlice' (lo+c.snd.fst-(c.snd.snd+1)) (lo+c.snd.fst)
     pure (ForInStep.yield (none,c.snd.fst+1,0))
    else pure (ForInStep.yield (none,c.snd.fst+1,0))
   else do
    let o <-ltAt' (lo+c.snd.fst-1) (lo+c.snd.fst)
    match o with
    |some more=>
     if more=true then pure (ForInStep.done (none,c.snd.fst,c.snd.snd))
     else pure (ForInStep.yield (none,c.snd.fst+1,c.snd.snd+1))
    |_=>pure (ForInStep.done (some none,c.snd.fst,c.snd.snd))
  |_=>pure (ForInStep.done (some none,c.snd.fst,c.snd.snd))
def zfw(lo n m:Nat):StateT SortSt Sem (Option Nat):=do
 liftM (rule "list.sort.descending-run")
 let c <-zen lo (n+1) m
 match c.fst with
 |some r=>pure r
 |none=>
  if c.snd.snd > 0 then do
   reverseSlice' (lo+c.snd.fst-(c.snd.snd+1)) (lo+c.snd.fst)
   zcc lo c.snd.fst m
  else zcc lo c.snd.fst m
theorem zbo(lo m:Nat):countRun' lo m=(do
  let c <-zcb lo 1 m
  match c.fst with
  |some r=>pure r
  |none=>
   if (c.snd == m)=true then pure (some c.snd)
   else if c.snd > 1 then do
    let o <-ltAt' lo (lo+c.snd-1)
    match o with
    |some rose=>if rose=true then pure (some c.snd) else do
      reverseSlice' lo (lo+c.snd)
      zfw lo c.snd m
    |_=>pure none
   else zfw lo c.snd m):=by
 rw[countRun'_eq];unfold zfw zcc zen zcb;dsimp only;congr 1
 funext c
 obtain⟨r,n⟩:=c
 cases r with
 |some r=>rfl
 |none=>
  dsimp only
  split
  ·rfl
  ·split
   ·congr 1
    funext x
    cases x with
    |none=>rfl
    |some rose=>
     dsimp only
     split
     ·rfl
     ·congr 1
      funext _
      congr 1;funext _;congr 1;congr 1;funext c2;obtain⟨r2,n2,q2⟩:=c2;cases r2 with
      |some r2=>rfl
      |none=>
       dsimp only
       split
       ·congr 1;funext _;congr 1;funext _;congr 1;funext c3;obtain⟨r3,n3⟩:=c3;cases r3 <;> rfl
       ·congr 1;funext _;congr 1;funext c3;obtain⟨r3,n3⟩:=c3;cases r3 <;> rfl
   ·congr 1;funext _;congr 1;congr 1;funext c2;obtain⟨r2,n2,q2⟩:=c2;cases r2 with
    |some r2=>rfl
    |none=>
     dsimp only
     split
     ·congr 1;funext _;congr 1;funext _;congr 1;funext c3;obtain⟨r3,n3⟩:=c3;cases r3 <;> rfl
     ·congr 1;funext _;congr 1;funext c3;obtain⟨r3,n3⟩:=c3;cases r3 <;> rfl
end
end SQ
namespace SQ
open PySem PyProof.Rows
set_option autoImplicit false
section
variable {prog:Program}{w:World}{A:Around}{E:Value->Shared->Prop}{s:Shared}{κ:KeyKind}{kd:SortKind}{a₀:Array Keyed}
theorem Up.next{xs:Array Keyed}{lo n:Nat}(h:Up κ xs lo n)(h1:1<=n)(c:κ.blt (KK κ xs (lo+n)) (KK κ xs (lo+n-1))=false):Up κ xs lo (n+1):=λi j a b d=>by
 by_cases e:j<lo+n
 ·exact h i j a b e
 ·have ej:j=lo+n:=by omega
  subst ej
  by_cases e2:i=lo+n
  ·subst e2;exact KeyOrd.kle_refl _
  ·exact KeyOrd.kle_trans (h i (lo+n-1) a (by omega) (by omega)) c
theorem zs1{st:SortSt}{lo a m:Nat}{Q:Option (Option Nat)×Nat->SortSt->Prop}(L:qb prog w A s κ kd)(h0:KeysOf κ a₀)(g:SG kd a₀ st)(hm:lo+m<=a₀.size)(ha:1<=a)(hu:Up κ (arrOf st) lo a)(ham:a<=m)
  (q:∀n,a<=n->n<=m->Up κ (arrOf st) lo n->(n=m\/κ.klt (KK κ (arrOf st) (lo+n)) (KK κ (arrOf st) (lo+n-1)))->Q (none,n) st):wpS (model prog w) A E s (zcb lo a m) Q st:=by
 unfold zcb;refine wpS_forRange (I:=λx c st'=>st'=st/\c=(none,x)/\Up κ (arrOf st) lo x) (λx c st' hx1 hx2 h=>?_) (λc st' h=>?_) ⟨rfl,rfl,hu⟩
 ·obtain⟨rfl,rfl,hx⟩:=h;dsimp only;refine wpS_bind (zca L g h0 (by omega) (by omega) ?_)
  cases cb:κ.blt (KK κ (arrOf st') (lo+x)) (KK κ (arrOf st') (lo+x-1)) with
  |true=>exact wpS_pure (q x hx1 (by omega) hx (.inr cb))
  |false=>exact wpS_pure ⟨rfl,rfl,hx.next (by omega) cb⟩
 ·obtain⟨rfl,rfl,hx⟩:=h;rw[show max a m=m by omega]at hx ⊢;exact q m ham (Nat.le_refl _) hx (.inl rfl)
theorem zph{st st0:SortSt}{lo n m:Nat}{Q:Option Nat->SortSt->Prop}(L:qb prog w A s κ kd)(h0:KeysOf κ a₀)(g:SG kd a₀ st)(hm:lo+m<=a₀.size)(h1:1<=n)(hnm:n<=m)(hd:Dn κ (arrOf st) lo n)(mv:Mv lo (lo+m) st0 st)
  (q:∀k st',SG kd a₀ st'->Mv lo (lo+m) st0 st'->1<=k->k<=m->Up κ (arrOf st') lo k->Q (some k) st'):wpS (model prog w) A E s (zcc lo n m) Q st:=by
 unfold zcc;have sz:lo+n<=(arrOf st).size:=by rw[g.sz];omega
 refine wpS_bind (zij ?_);have g':=g.arr (mirror_perm (arrOf st) lo (lo+n) ((lo+n-lo) / 2));refine wpS_bind (zs1 L h0 g' hm h1 (λi j a b c=>?_) hnm λk k1 k2 hk _=>wpS_pure (q k _ g' (mv.trans (jc sz (Nat.le_refl _) (by omega))) (by omega) k2 hk));show κ.kle (KK κ (mirror (arrOf st) lo (lo+n) ((lo+n-lo) / 2)) i) (KK κ (mirror (arrOf st) lo (lo+n) ((lo+n-lo) / 2)) j);rw[KK_mirror sz,KK_mirror sz,if_pos (by omega),if_pos (by omega)];exact hd _ _ (by omega) (by omega) (by omega)
theorem Dn.next{xs:Array Keyed}{lo n:Nat}(h:Dn κ xs lo n)(h1:1<=n)(c:κ.kle (KK κ xs (lo+n)) (KK κ xs (lo+n-1))):Dn κ xs lo (n+1):=λi j a b d=>by
 by_cases e:j<lo+n
 ·exact h i j a b e
 ·have ej:j=lo+n:=by omega
  subst ej
  by_cases e2:i=lo+n
  ·subst e2;exact KeyOrd.kle_refl _
  ·exact KeyOrd.kle_trans c (h i (lo+n-1) a (by omega) (by omega))
theorem zeo{xs:Array Keyed}{i j:Nat}(hj:j<=xs.size)(he:∀k,i<=k->k<j->KK κ xs k=KK κ xs (j-1))(k:Nat):KK κ (mirror xs i j ((j-i) / 2)) k=KK κ xs k:=KK_mirror_equal hj he k
theorem zt5{st:SortSt}{lo n m:Nat}{Q:Option (Option Nat)×Nat×Nat->SortSt->Prop}(L:qb prog w A s κ kd)(h0:KeysOf κ a₀)(g:SG kd a₀ st)(hm:lo+m<=a₀.size)(h1:1<=n)(hnm:n<=m)(hd:Dn κ (arrOf st) lo n)
  (q:∀k e st',SG kd a₀ st'->Mv lo (lo+m) st st'->n<=k->k<=m->Dn κ (arrOf st') lo k->e+1<=k->(∀i,lo+k-(e+1)<=i->i<lo+k->KK κ (arrOf st') i=KK κ (arrOf st') (lo+k-1))->Q (none,k,e) st'):wpS (model prog w) A E s (zen lo n m) Q st:=by
 unfold zen;refine wpS_forRange (I:=λx c st'=>∃e,c=(none,x,e)/\SG kd a₀ st'/\Mv lo (lo+m) st st'/\Dn κ (arrOf st') lo x/\e+1<=x/\(∀i,lo+x-(e+1)<=i->i<lo+x->KK κ (arrOf st') i=KK κ (arrOf st') (lo+x-1))) (λx c st' hx1 hx2 h=>?_) (λc st' h=>?_) ⟨0,rfl,g,Mv.refl _ _ _,hd,by omega,λi a b=>by rw[show i=lo+n-1 by omega]⟩
 ·obtain⟨e,rfl,g',mv,hx,he,heq⟩:=h;dsimp only;refine wpS_bind (zca L g' h0 (by omega) (by omega) ?_)
  cases cb:κ.blt (KK κ (arrOf st') (lo+x)) (KK κ (arrOf st') (lo+x-1)) with
  |true=>
   dsimp only;rw[if_pos rfl]
   by_cases ce:e > 0
   ·rw[if_pos ce];refine wpS_bind (zij (wpS_pure ?_));have sz:lo+x<=(arrOf st').size:=by rw[g'.sz];omega
    have kf:=zeo (κ:=κ) (xs:=arrOf st') (i:=lo+x-(e+1)) (j:=lo+x) sz heq;refine⟨0,rfl,g'.arr (mirror_perm _ _ _ _),mv.trans (jc sz (by omega) (by omega)),?_,by omega,λi a b=>by rw[show i=lo+(x+1)-1 by omega]⟩;refine Dn.next (λi j a b d=>?_) (by omega) ?_
    ·show κ.kle (KK κ (mirror _ _ _ _) j) (KK κ (mirror _ _ _ _) i);rw[kf,kf];exact hx i j a b d
    ·show κ.kle (KK κ (mirror _ _ _ _) _) (KK κ (mirror _ _ _ _) _);rw[kf,kf];exact KeyOrd.kle_of_klt cb
   ·rw[if_neg ce];exact wpS_pure ⟨0,rfl,g',mv,hx.next (by omega) (KeyOrd.kle_of_klt cb),by omega,λi a b=>by rw[show i=lo+(x+1)-1 by omega]⟩
  |false=>
   dsimp only;rw[if_neg (by decide)];refine wpS_bind (zca L g' h0 (by omega) (by omega) ?_)
   cases cc:κ.blt (KK κ (arrOf st') (lo+x-1)) (KK κ (arrOf st') (lo+x)) with
   |true=>exact wpS_pure (q x e st' g' mv hx1 (by omega) hx he heq)
   |false=>
    have same:KK κ (arrOf st') (lo+x)=KK κ (arrOf st') (lo+x-1):=KeyOrd.kle_antisymm cc cb;refine wpS_pure ⟨e+1,rfl,g',mv,hx.next (by omega) cc,by omega,λi a b=>?_⟩;rw[show lo+(x+1)-1=lo+x by omega]
    by_cases ei:i=lo+x
    ·rw[ei]
    ·rw[heq i (by omega) (by omega),same]
 ·obtain⟨e,rfl,g',mv,hx,he,heq⟩:=h;rw[show max n m=m by omega]at *;exact q m e st' g' mv hnm (Nat.le_refl _) hx he heq
theorem zik{st st0:SortSt}{lo n m:Nat}{Q:Option Nat->SortSt->Prop}(L:qb prog w A s κ kd)(h0:KeysOf κ a₀)(g:SG kd a₀ st)(hm:lo+m<=a₀.size)(h1:1<=n)(hnm:n+1<=m)(hd:Dn κ (arrOf st) lo (n+1))(mv:Mv lo (lo+m) st0 st)
  (q:∀k st',SG kd a₀ st'->Mv lo (lo+m) st0 st'->1<=k->k<=m->Up κ (arrOf st') lo k->Q (some k) st'):wpS (model prog w) A E s (zfw lo n m) Q st:=by
 unfold zfw;refine wpS_bind (wpS_lift (wpAny_rule ⟨rfl,?_⟩));refine wpS_bind (zt5 L h0 g hm (by omega) hnm hd λk e st' g' mv' k1 k2 hk he heq=>?_);dsimp only
 by_cases ce:e > 0
 ·rw[if_pos ce];have sz:lo+k<=(arrOf st').size:=by rw[g'.sz];omega
  have kf:=zeo (κ:=κ) (xs:=arrOf st') (i:=lo+k-(e+1)) (j:=lo+k) sz heq;refine wpS_bind (zij (zph L h0 (g'.arr (mirror_perm _ _ _ _)) hm (by omega) k2 (λi j a b d=>?_) ((mv.trans mv').trans (jc sz (by omega) (by omega))) q));show κ.kle (KK κ (mirror _ _ _ _) j) (KK κ (mirror _ _ _ _) i);rw[kf,kf];exact hk i j a b d
 ·rw[if_neg ce];exact zph L h0 g' hm (by omega) k2 hk (mv.trans mv') q
theorem zg8{st:SortSt}{lo m:Nat}{Q:Option Nat->SortSt->Prop}(L:qb prog w A s κ kd)(h0:KeysOf κ a₀)(g:SG kd a₀ st)(hm:lo+m<=a₀.size)(h1:1<=m)
  (q:∀k st',SG kd a₀ st'->Mv lo (lo+m) st st'->1<=k->k<=m->Up κ (arrOf st') lo k->Q (some k) st'):wpS (model prog w) A E s (countRun' lo m) Q st:=by
 rw[zbo];refine wpS_bind (zs1 L h0 g hm (Nat.le_refl _) (λi j a b c=>by rw[show i=j by omega];exact KeyOrd.kle_refl _) h1 λn n1 n2 hn hz=>?_);dsimp only
 by_cases e:n=m
 ·rw[if_pos (by simpa using e)];exact wpS_pure (q n st g (Mv.refl _ _ _) n1 n2 hn)
 ·rw[if_neg (by simpa using e)];have down:=hz.resolve_left e
  by_cases e1:n > 1
  ·rw[if_pos e1];refine wpS_bind (zca L g h0 (by omega) (by omega) ?_)
   cases cb:κ.blt (KK κ (arrOf st) lo) (KK κ (arrOf st) (lo+n-1)) with
   |true=>exact wpS_pure (q n st g (Mv.refl _ _ _) n1 n2 hn)
   |false=>
    dsimp only;rw[if_neg (by decide)];have all:∀k,lo<=k->k<lo+n->KK κ (arrOf st) k=KK κ (arrOf st) (lo+n-1):=λk a b=>
     KeyOrd.kle_antisymm (hn k (lo+n-1) a (by omega) (by omega)) (KeyOrd.kle_trans cb (hn lo k (Nat.le_refl _) a b))
    have sz:lo+n<=(arrOf st).size:=by rw[g.sz];omega
    have kf:=zeo (κ:=κ) (xs:=arrOf st) (i:=lo) (j:=lo+n) sz all;refine wpS_bind (zij (zik L h0 (g.arr (mirror_perm _ _ _ _)) hm n1 (by omega) (Dn.next (λi j a b d=>?_) n1 ?_) (jc sz (Nat.le_refl _) (by omega)) q))
    ·show κ.kle (KK κ (mirror _ _ _ _) j) (KK κ (mirror _ _ _ _) i);rw[kf,kf,all j (by omega) d,all i a (by omega)];exact KeyOrd.kle_refl _
    ·show κ.kle (KK κ (mirror _ _ _ _) _) (KK κ (mirror _ _ _ _) _);rw[kf,kf];exact KeyOrd.kle_of_klt down
  ·rw[if_neg e1];refine zik L h0 g hm n1 (by omega) (Dn.next (λi j a b d=>by rw[show i=j by omega];exact KeyOrd.kle_refl _) n1 (KeyOrd.kle_of_klt down)) (Mv.refl _ _ _) q
theorem zl7{st:SortSt}{lo n ok:Nat}{Q:Bool->SortSt->Prop}(L:qb prog w A s κ kd)(h0:KeysOf κ a₀)(g:SG kd a₀ st)(hn:lo+n<=a₀.size)(hok:ok<=n)(hu:Up κ (arrOf st) lo ok)
  (q:∀st',SG kd a₀ st'->Mv lo (lo+n) st st'->Up κ (arrOf st') lo n->Q true st'):wpS (model prog w) A E s (binarySort' lo n ok) Q st:=by
 rw[binarySort'_eq];refine wpS_bind (wpS_mono (wpS_forRange (I:=λk c st'=>c=(none,())/\SG kd a₀ st'/\Mv lo (lo+n) st st'/\Up κ (arrOf st') lo (min k n))
  (Q:=λc st'=>c=(none,())/\SG kd a₀ st'/\Mv lo (lo+n) st st'/\Up κ (arrOf st') lo n) (λk c st' hk1 hk2 h=>?_) (λc st' h=>?_) ⟨rfl,g,Mv.refl _ _ _,λi j a b d=>?_⟩) (λc st' h=>?_))
 ·obtain⟨rfl,g',mv,hs⟩:=h;rw[show min k n=k by omega]at hs
  refine wpS_bind (wpS_mono (wpS_forRange (I:=λx c z=>z=st'/\∃l r,c=(none,l,r)/\l<=r/\r<=k/\r-l<=k-x/\(∀i,lo<=i->i<lo+l->κ.kle (KK κ (arrOf st') i) (KK κ (arrOf st') (lo+k)))/\(∀i,lo+r<=i->i<lo+k->κ.klt (KK κ (arrOf st') (lo+k)) (KK κ (arrOf st') i)))
   (Q:=λc z=>z=st'/\∃l r,c=(none,l,r)/\l<=k/\(∀i,lo<=i->i<lo+l->κ.kle (KK κ (arrOf st') i) (KK κ (arrOf st') (lo+k)))/\(∀i,lo+l<=i->i<lo+k->κ.klt (KK κ (arrOf st') (lo+k)) (KK κ (arrOf st') i)))
   (λx c z hx1 hx2 h=>?_) (λc z h=>?_) ⟨rfl,0,k,rfl,by omega,by omega,by omega,λi a b=>by omega,λi a b=>by omega⟩) (λc z h=>?_))
  ·obtain⟨rfl,l,r,rfl,p1,p2,p3,p4,p5⟩:=h;dsimp only
   by_cases e:l ≥ r
   ·rw[if_pos e];have:l=r:=by omega
    subst this;exact wpS_pure ⟨rfl,l,l,rfl,p2,p4,p5⟩
   ·rw[if_neg e];refine wpS_bind (zca L g' h0 (by omega) (by omega) ?_)
    cases cb:κ.blt (KK κ (arrOf z) (lo+k)) (KK κ (arrOf z) (lo+(l+r) / 2)) with
    |true=>exact wpS_pure ⟨rfl,l,(l+r) / 2,rfl,by omega,by omega,by omega,p4,λi a b=>KeyOrd.klt_of_klt_of_kle cb (hs _ _ (by omega) a (by omega))⟩
    |false=>exact wpS_pure ⟨rfl,(l+r) / 2+1,r,rfl,by omega,by omega,by omega,λi a b=>KeyOrd.kle_trans (hs i (lo+(l+r) / 2) a (by omega) (by omega)) cb,p5⟩
  ·obtain⟨rfl,l,r,rfl,p1,p2,p3,p4,p5⟩:=h;have:l=r:=by omega
   subst this;exact⟨rfl,l,l,rfl,p2,p4,p5⟩
  ·obtain⟨rfl,l,r,rfl,p2,p4,p5⟩:=h;show wpS _ _ _ _ (do moveDown' (lo+k) (lo+l);pure (ForInStep.yield (none,()))) _ _;rw[moveDown'_eq];have sz:lo+k<(arrOf z).size:=by rw[g'.sz];omega
   refine wpS_bind (wpS_modify (wpS_pure ⟨rfl,g'.arr (bubble_perm _ _ _),mv.trans ⟨λi hi=>?_,rfl⟩,?_⟩))
   ·show(bubble (arrOf z) (lo+k) (lo+k-(lo+l)))[i]?=_;rw[getElem?_bubble sz _ (by omega),if_neg (by omega),if_neg (by omega)]
   ·rw[show min (k+1) n=k+1 by omega];intro i j a b d;show κ.kle (KK κ (bubble (arrOf z) (lo+k) (lo+k-(lo+l))) i) (KK κ (bubble (arrOf z) (lo+k) (lo+k-(lo+l))) j);rw[KK_bubble sz (by omega),KK_bubble sz (by omega),show lo+k-(lo+k-(lo+l))=lo+l by omega]
    repeat' split
    all_goals first
     |(exfalso;omega)
     |exact KeyOrd.kle_refl _
     |exact p4 _ (by omega) (by omega)
     |exact KeyOrd.kle_of_klt (p5 _ (by omega) (by omega))
     |exact hs _ _ (by omega) (by omega) (by omega)
 ·obtain⟨h1,h2,h3,h4⟩:=h;rw[show min (max (max ok 1) n) n=n by omega]at h4;exact⟨h1,h2,h3,h4⟩
 ·by_cases e:ok=0
  ·rw[show i=j by omega];exact KeyOrd.kle_refl _
  ·exact hu i j a b (by omega)
 ·obtain⟨rfl,h2,h3,h4⟩:=h;exact wpS_pure (q st' h2 h3 h4)
end
end SQ
namespace SQ
open PySem PyProof.Rows
set_option autoImplicit false
def zob:Bool->Keyed->Array Keyed->Nat->Nat->Nat->StateT SortSt Sem (Option Nat):=sortPriv% PySem.Builtin.gallop
abbrev zrj(κ:KeyKind)(arr:Array Keyed)(base n:Nat):Prop:=∀i,i<n->∃p,arr[base+i]?=some p/\κ.keyOf p.1=some (KK κ arr (base+i))
def byd(κ:KeyKind)(left:Bool)(k:κ.α)(arr:Array Keyed)(base i:Nat):Bool:=if left=true then κ.blt (KK κ arr (base+i)) k else !κ.blt k (KK κ arr (base+i))
section
variable {prog:Program}{w:World}{A:Around}{E:Value->Shared->Prop}{s:Shared}{κ:KeyKind}{kd:SortKind}
theorem zfx{st:SortSt}{left:Bool}{key:Keyed}{k:κ.α}{arr:Array Keyed}{base n i:Nat}{Q:Option Bool->SortSt->Prop}(L:qb prog w A s κ kd)(hk:kindOf st=kd)(hy:zrj κ arr base n)(kk:κ.keyOf key.1=some k)(hi:i<n)(q:Q (some (byd κ left k arr base i)) st):
  wpS (model prog w) A E s (do
   let x <-elem' arr (base+i)
   if left=true then lt' x key
   else do
    let r <-lt' key x
    pure (Option.map (λx=>!x) r)) Q st:=by
 obtain⟨p,e,kp⟩:=hy i hi;refine wpS_bind (yy e ?_);unfold byd at q
 cases left with
 |true=>exact zl6 L hk kp kk q
 |false=>exact wpS_bind (zl6 L hk kk kp (wpS_pure q))
theorem vt{st:SortSt}{left:Bool}{key:Keyed}{k:κ.α}{arr:Array Keyed}{base n hint:Nat}{Q:Option Nat->SortSt->Prop}(L:qb prog w A s κ kd)(hk:kindOf st=kd)(hy:zrj κ arr base n)(kk:κ.keyOf key.1=some k)(hh:hint<n)
  (mono:∀i j,i<=j->j<n->byd κ left k arr base j=true->byd κ left k arr base i=true)
  (q:∀m,m<=n->(∀i,i<m->byd κ left k arr base i=true)->(∀i,m<=i->i<n->byd κ left k arr base i=false)->Q (some m) st):wpS (model prog w) A E s (zob left key arr base n hint) Q st:=by
 have cut:∀i j,i<=j->j<n->byd κ left k arr base i=false->byd κ left k arr base j=false:=λi j a b c=>by
  cases e:byd κ left k arr base j with
  |false=>rfl
  |true=>rw[mono i j a b e]at c;cases c
 refine wpS_bind ?_;refine zfx L hk hy kk hh ?_;dsimp only
 cases c0:byd κ left k arr base hint with
 |true=>
  rw[if_pos rfl];refine wpS_bind (wpS_mono (wpS_forRange (I:=λx c z=>st=z/\∃l o,c=(none,l,o)/\l<o/\x<o/\hint+l<n/\byd κ left k arr base (hint+l)=true)
   (Q:=λc z=>st=z/\∃l o,c=(none,l,o)/\l<o/\hint+l<n/\byd κ left k arr base (hint+l)=true/\(n-hint<=o\/byd κ left k arr base (hint+o)=false))
   (λx c z hx1 hx2 h=>?_) (λc z h=>?_) ⟨rfl,0,1,rfl,by omega,by omega,by omega,c0⟩) (λc z h=>?_))
  ·obtain⟨rfl,l,o,rfl,p1,p2,p3,p4⟩:=h;dsimp only
   by_cases e:o ≥ n-hint
   ·rw[if_pos e];exact wpS_pure ⟨rfl,l,o,rfl,p1,p3,p4,.inl e⟩
   ·rw[if_neg e];refine wpS_bind (zfx L hk hy kk (by omega) ?_)
    cases cb:byd κ left k arr base (hint+o) with
    |true=>exact wpS_pure ⟨rfl,o,2 * o+1,rfl,by omega,by omega,by omega,cb⟩
    |false=>exact wpS_pure ⟨rfl,l,o,rfl,p1,p3,p4,.inr cb⟩
  ·obtain⟨rfl,l,o,rfl,p1,p2,p3,p4⟩:=h;exact⟨rfl,l,o,rfl,p1,p3,p4,.inl (by omega)⟩
  ·obtain⟨rfl,l,o,rfl,p1,p3,p4,p5⟩:=h;have h1:hint+l+1<=hint+min o (n-hint):=by omega
   have h2:hint+min o (n-hint)<=n:=by omega
   have h3:∀i,i<hint+l+1->byd κ left k arr base i=true:=λi hi=>mono i _ (by omega) p3 p4;have h4:∀i,hint+min o (n-hint)<=i->i<n->byd κ left k arr base i=false:=λi a b=>by
    rcases p5 with p5|p5
    ·omega
    ·exact cut (hint+o) i (by omega) b p5
   dsimp only;refine wpS_bind (wpS_mono (wpS_forRange (I:=λx c z=>st=z/\∃l r,c=(none,l,r)/\l<=r/\r<=n/\r-l<=n-x/\(∀i,i<l->byd κ left k arr base i=true)/\(∀i,r<=i->i<n->byd κ left k arr base i=false))
    (Q:=λc z=>st=z/\∃l r,c=(none,l,r)/\r<=l/\l<=r/\r<=n/\(∀i,i<l->byd κ left k arr base i=true)/\(∀i,r<=i->i<n->byd κ left k arr base i=false))
    (λx c z hx1 hx2 h=>?_) (λc z h=>?_) ⟨rfl,_,_,rfl,h1,h2,by omega,h3,h4⟩) (λc z h=>?_))
   ·obtain⟨rfl,l,r,rfl,p1,p2,p3,p4,p5⟩:=h;dsimp only
    by_cases e:l ≥ r
    ·rw[if_pos e];exact wpS_pure ⟨rfl,l,r,rfl,e,p1,p2,p4,p5⟩
    ·rw[if_neg e];refine wpS_bind (zfx L hk hy kk (by omega) ?_)
     cases cb:byd κ left k arr base (l+(r-l) / 2) with
     |true=>exact wpS_pure ⟨rfl,_,_,rfl,by omega,by omega,by omega,λi hi=>mono i _ (by omega) (by omega) cb,p5⟩
     |false=>exact wpS_pure ⟨rfl,_,_,rfl,by omega,by omega,by omega,p4,λi a b=>cut _ i a b cb⟩
   ·obtain⟨rfl,l,r,rfl,p1,p2,p3,p4,p5⟩:=h;exact⟨rfl,l,r,rfl,by omega,p1,p2,p4,p5⟩
   ·obtain⟨rfl,l,r,rfl,p0,p1,p2,p4,p5⟩:=h;have:l=r:=by omega
    subst this;exact wpS_pure (q l p2 p4 p5)
 |false=>
  rw[if_neg (by decide)];refine wpS_bind (wpS_mono (wpS_forRange (I:=λx c z=>st=z/\∃l o,c=(none,l,o)/\l<o/\x<o/\l<=hint/\byd κ left k arr base (hint-l)=false)
   (Q:=λc z=>st=z/\∃l o,c=(none,l,o)/\l<o/\l<=hint/\byd κ left k arr base (hint-l)=false/\(hint+1<=o\/byd κ left k arr base (hint-o)=true))
   (λx c z hx1 hx2 h=>?_) (λc z h=>?_) ⟨rfl,0,1,rfl,by omega,by omega,by omega,c0⟩) (λc z h=>?_))
  ·obtain⟨rfl,l,o,rfl,p1,p2,p3,p4⟩:=h;dsimp only
   by_cases e:o ≥ hint+1
   ·rw[if_pos e];exact wpS_pure ⟨rfl,l,o,rfl,p1,p3,p4,.inl e⟩
   ·rw[if_neg e];refine wpS_bind (zfx L hk hy kk (by omega) ?_)
    cases cb:byd κ left k arr base (hint-o) with
    |true=>exact wpS_pure ⟨rfl,l,o,rfl,p1,p3,p4,.inr cb⟩
    |false=>exact wpS_pure ⟨rfl,o,2 * o+1,rfl,by omega,by omega,by omega,cb⟩
  ·obtain⟨rfl,l,o,rfl,p1,p2,p3,p4⟩:=h;exact⟨rfl,l,o,rfl,p1,p3,p4,.inl (by omega)⟩
  ·obtain⟨rfl,l,o,rfl,p1,p3,p4,p5⟩:=h;have h1:hint+1-min o (hint+1)<=hint-l:=by omega
   have h2:hint-l<=n:=by omega
   have h3:∀i,i<hint+1-min o (hint+1)->byd κ left k arr base i=true:=λi hi=>by
    rcases p5 with p5|p5
    ·omega
    ·exact mono i (hint-o) (by omega) (by omega) p5
   have h4:∀i,hint-l<=i->i<n->byd κ left k arr base i=false:=λi a b=>cut (hint-l) i a b p4;dsimp only;refine wpS_bind (wpS_mono (wpS_forRange (I:=λx c z=>st=z/\∃l r,c=(none,l,r)/\l<=r/\r<=n/\r-l<=n-x/\(∀i,i<l->byd κ left k arr base i=true)/\(∀i,r<=i->i<n->byd κ left k arr base i=false))
    (Q:=λc z=>st=z/\∃l r,c=(none,l,r)/\r<=l/\l<=r/\r<=n/\(∀i,i<l->byd κ left k arr base i=true)/\(∀i,r<=i->i<n->byd κ left k arr base i=false))
    (λx c z hx1 hx2 h=>?_) (λc z h=>?_) ⟨rfl,_,_,rfl,h1,h2,by omega,h3,h4⟩) (λc z h=>?_))
   ·obtain⟨rfl,l,r,rfl,p1,p2,p3,p4,p5⟩:=h;dsimp only
    by_cases e:l ≥ r
    ·rw[if_pos e];exact wpS_pure ⟨rfl,l,r,rfl,e,p1,p2,p4,p5⟩
    ·rw[if_neg e];refine wpS_bind (zfx L hk hy kk (by omega) ?_)
     cases cb:byd κ left k arr base (l+(r-l) / 2) with
     |true=>exact wpS_pure ⟨rfl,_,_,rfl,by omega,by omega,by omega,λi hi=>mono i _ (by omega) (by omega) cb,p5⟩
     |false=>exact wpS_pure ⟨rfl,_,_,rfl,by omega,by omega,by omega,p4,λi a b=>cut _ i a b cb⟩
   ·obtain⟨rfl,l,r,rfl,p1,p2,p3,p4,p5⟩:=h;exact⟨rfl,l,r,rfl,by omega,p1,p2,p4,p5⟩
   ·obtain⟨rfl,l,r,rfl,p0,p1,p2,p4,p5⟩:=h;have:l=r:=by omega
    subst this;exact wpS_pure (q l p2 p4 p5)
end
end SQ
namespace SQ
open PySem PyProof.Rows
set_option autoImplicit false
def zl8:Array Keyed->Array Keyed->StateT SortSt Sem (Array Keyed):=sortPriv% PySem.Builtin.mergeLo
def zl9:Array Keyed->Array Keyed->StateT SortSt Sem (Array Keyed):=sortPriv% PySem.Builtin.mergeHi
def zoc:Nat->StateT SortSt Sem Unit:=sortPriv% PySem.Builtin.setMinGallop
def kk(κ:KeyKind)(p:Keyed):κ.α:=(κ.keyOf p.1).getD κ.dflt
def le(κ:KeyKind)(x y:Keyed):Prop:=κ.kle (kk κ x) (kk κ y)
theorem w5{κ:KeyKind}{xs:Array Keyed}{i:Nat}{p:Keyed}(e:xs[i]?=some p):KK κ xs i=kk κ p:=by unfold KK kk;rw[e]
theorem le_refl{κ:KeyKind}(x:Keyed):le κ x x:=KeyOrd.kle_refl _
theorem le_trans{κ:KeyKind}{x y z:Keyed}(a:le κ x y)(b:le κ y z):le κ x z:=KeyOrd.kle_trans a b
def AllK(κ:KeyKind)(xs:Array Keyed):Prop:=∀p∈xs.toList,κ.keyOf p.1=some (kk κ p)
theorem AllK.ky{κ:KeyKind}{xs:Array Keyed}(h:AllK κ xs)(base n:Nat)(hb:base+n<=xs.size):zrj κ xs base n:=λi hi=>by
 have l:base+i<xs.size:=by omega
 have e:xs[base+i]?=some (xs[base+i]'l):=Array.getElem?_eq_getElem l;exact⟨_,e,by rw[w5 e];exact h _ (by simp)⟩
abbrev Srt(κ:KeyKind)(xs:Array Keyed):Prop:=xs.toList.Pairwise (le κ)
theorem Srt.at{κ:KeyKind}{xs:Array Keyed}(h:Srt κ xs){i j:Nat}{p r:Keyed}(hij:i<=j)(e1:xs[i]?=some p)(e2:xs[j]?=some r):le κ p r:=by
 obtain⟨l1,rfl⟩:=Array.getElem?_eq_some_iff.mp e1;obtain⟨l2,rfl⟩:=Array.getElem?_eq_some_iff.mp e2
 by_cases c:i=j
 ·subst c;exact le_refl _
 ·have:=List.pairwise_iff_getElem.mp h i j (by simpa using l1) (by simpa using l2) (by omega);simpa using this
structure MI(κ:KeyKind)(a b out:Array Keyed)(ia ib:Nat):Prop where
 perm:out.toList.Perm (a.toList.take ia++b.toList.take ib)
 sort:out.toList.Pairwise (le κ)
 la:∀x∈out.toList,∀y∈a.toList.drop ia,le κ x y
 lb:∀x∈out.toList,∀y∈b.toList.drop ib,le κ x y
theorem vv{α:Type}{xs:List α}{i:Nat}{p:α}(e:xs[i]?=some p):xs.take (i+1)=xs.take i ++ [p]:=by
 rw[List.take_add_one,e];rfl
theorem xt{α:Type}{xs:List α}{i:Nat}{p:α}(e:xs[i]?=some p):xs.drop i=p::xs.drop (i+1):=by
 obtain⟨l,rfl⟩:=List.getElem?_eq_some_iff.mp e;exact List.drop_eq_getElem_cons l
section
variable {κ:KeyKind}{a b out:Array Keyed}{ia ib:Nat}
theorem vx{xs:Array Keyed}{i:Nat}{p:Keyed}(e:xs[i]?=some p):xs.toList[i]?=some p:=by simpa using e
theorem Srt.rest{xs:Array Keyed}(h:Srt κ xs){i:Nat}{p:Keyed}(e:xs[i]?=some p):∀y∈xs.toList.drop i,le κ p y:=by
 have h2:=h.drop (i:=i);rw[xt (vx e)]at h2 ⊢;intro y hy;rcases List.mem_cons.mp hy with rfl|hy
 ·exact le_refl _
 ·exact(List.pairwise_cons.mp h2).1 y hy
theorem MI.pushB(m:MI κ a b out ia ib)(sb:Srt κ b){p:Keyed}(e:b[ib]?=some p)(h:∀y∈a.toList.drop ia,le κ p y):MI κ a b (out.push p) ia (ib+1) where
 perm:=by
  rw[Array.toList_push,vv (vx e),<-List.append_assoc];exact m.perm.append_right _
 sort:=by
  rw[Array.toList_push];refine List.pairwise_append.mpr ⟨m.sort,List.pairwise_singleton _ _,λx hx y hy=>?_⟩;rw[List.mem_singleton.mp hy];exact m.lb x hx p (by rw[xt (vx e)];exact List.mem_cons_self)
 la:=λx hx y hy=>by
  rw[Array.toList_push]at hx;rcases List.mem_append.mp hx with hx|hx
  ·exact m.la x hx y hy
  ·rw[List.mem_singleton.mp hx];exact h y hy
 lb:=λx hx y hy=>by
  rw[Array.toList_push]at hx;have hy':y∈b.toList.drop ib:=by rw[xt (vx e)];exact List.mem_cons_of_mem _ hy
  rcases List.mem_append.mp hx with hx|hx
  ·exact m.lb x hx y hy'
  ·rw[List.mem_singleton.mp hx];exact sb.rest e y hy'
theorem MI.pushA(m:MI κ a b out ia ib)(sa:Srt κ a){p:Keyed}(e:a[ia]?=some p)(h:∀y∈b.toList.drop ib,le κ p y):MI κ a b (out.push p) (ia+1) ib where
 perm:=by
  rw[Array.toList_push,vv (vx e),List.append_assoc];refine(m.perm.append_right _).trans ?_;rw[List.append_assoc];exact List.Perm.append_left _ List.perm_append_comm
 sort:=by
  rw[Array.toList_push];refine List.pairwise_append.mpr ⟨m.sort,List.pairwise_singleton _ _,λx hx y hy=>?_⟩;rw[List.mem_singleton.mp hy];exact m.la x hx p (by rw[xt (vx e)];exact List.mem_cons_self)
 lb:=λx hx y hy=>by
  rw[Array.toList_push]at hx;rcases List.mem_append.mp hx with hx|hx
  ·exact m.lb x hx y hy
  ·rw[List.mem_singleton.mp hx];exact h y hy
 la:=λx hx y hy=>by
  rw[Array.toList_push]at hx;have hy':y∈a.toList.drop ia:=by rw[xt (vx e)];exact List.mem_cons_of_mem _ hy
  rcases List.mem_append.mp hx with hx|hx
  ·exact m.la x hx y hy'
  ·rw[List.mem_singleton.mp hx];exact sa.rest e y hy'
theorem zaj{xs:Array Keyed}{i k:Nat}{p:Keyed}(e:xs[i+k]?=some p):xs.extract i (i+(k+1))=(xs.extract i (i+k)).push p:=by
 obtain⟨l,rfl⟩:=Array.getElem?_eq_some_iff.mp e;apply Array.ext';rw[Array.toList_push,Array.toList_extract,Array.toList_extract];simp only[List.extract_eq_take_drop];rw[show i+(k+1)-i=k+1 by omega,show i+k-i=k by omega,List.take_add_one];congr 1;rw[List.getElem?_drop];simp[l]
theorem zak(xs:Array Keyed)(i:Nat):xs.extract i (i+0) = #[]:=by
 apply Array.ext';rw[Array.toList_extract,List.extract_eq_take_drop];simp
theorem MI.chunkA(m:MI κ a b out ia ib)(sa:Srt κ a):∀k:Nat,ia+k<=a.size->(∀i,i<k->∀p,a[ia+i]?=some p->∀y∈b.toList.drop ib,le κ p y)->MI κ a b (out++a.extract ia (ia+k)) (ia+k) ib
 |0,_,_=>by rw[zak,Array.append_empty];exact m
 |k+1,hk,h=>by
  have e:a[ia+k]?=some a[ia+k]:=getElem?_pos _ _ (by omega);have ih:=m.chunkA sa k (by omega) λi hi=>h i (by omega);rw[zaj e,Array.append_push];exact ih.pushA sa e (h k (by omega) _ e)
theorem MI.chunkB(m:MI κ a b out ia ib)(sb:Srt κ b):∀k:Nat,ib+k<=b.size->(∀i,i<k->∀p,b[ib+i]?=some p->∀y∈a.toList.drop ia,le κ p y)->MI κ a b (out++b.extract ib (ib+k)) ia (ib+k)
 |0,_,_=>by rw[zak,Array.append_empty];exact m
 |k+1,hk,h=>by
  have e:b[ib+k]?=some b[ib+k]:=getElem?_pos _ _ (by omega);have ih:=m.chunkB sb k (by omega) λi hi=>h i (by omega);rw[zaj e,Array.append_push];exact ih.pushB sb e (h k (by omega) _ e)
def Mg(κ:KeyKind)(a b r:Array Keyed):Prop:=r.toList.Perm (a.toList++b.toList)/\r.toList.Pairwise (le κ)
theorem wf(xs:Array Keyed)(i:Nat):(xs.extract i xs.size).toList=xs.toList.drop i:=by
 rw[Array.toList_extract,List.extract_eq_take_drop,List.take_of_length_le (by simp)]
theorem zfy{α:Type}{o x y u v:List α}(h:o.Perm (x++y)):(o++u++v).Perm ((x++u)++(y++v)):=by
 refine((h.append_right u).append_right v).trans ?_;rw[List.append_assoc,List.append_assoc,List.append_assoc x u];refine List.Perm.append_left x ?_;rw[<-List.append_assoc,<-List.append_assoc];exact List.Perm.append_right v List.perm_append_comm
theorem MI.fin(m:MI κ a b out ia ib)(sa:Srt κ a)(sb:Srt κ b)(h:a.size<=ia\/b.size<=ib):Mg κ a b (out++a.extract ia a.size++b.extract ib b.size):=by
 refine⟨?_,?_⟩
 ·rw[Array.toList_append,Array.toList_append,wf,wf];have:=zfy (u:=a.toList.drop ia) (v:=b.toList.drop ib) m.perm
  rwa [List.take_append_drop,List.take_append_drop]at this
 ·rw[Array.toList_append,Array.toList_append,wf,wf];rcases h with h|h
  ·rw[List.drop_eq_nil_of_le (by simpa using h:a.toList.length<=ia),List.append_nil];exact List.pairwise_append.mpr ⟨m.sort,sb.drop,m.lb⟩
  ·rw[List.drop_eq_nil_of_le (by simpa using h:b.toList.length<=ib),List.append_nil];exact List.pairwise_append.mpr ⟨m.sort,sa.drop,m.la⟩
theorem MI.last(m:MI κ a b out ia ib)(sa:Srt κ a)(sb:Srt κ b)(h:∀x∈b.toList,∀y∈a.toList.drop ia,le κ x y):Mg κ a b (out++b.extract ib b.size++a.extract ia a.size):=by
 refine⟨?_,?_⟩
 ·rw[Array.toList_append,Array.toList_append,wf,wf];have:=zfy (u:=b.toList.drop ib) (v:=a.toList.drop ia) (m.perm.trans List.perm_append_comm);rw[List.take_append_drop,List.take_append_drop]at this;exact this.trans List.perm_append_comm
 ·rw[Array.toList_append,Array.toList_append,wf,wf];refine List.pairwise_append.mpr ⟨List.pairwise_append.mpr ⟨m.sort,sb.drop,m.lb⟩,sa.drop,λx hx y hy=>?_⟩;rcases List.mem_append.mp hx with hx|hx
  ·exact m.la x hx y hy
  ·exact h x (List.mem_of_mem_drop hx) y hy
end
structure Gm(st st':SortSt):Prop where
 k:kindOf st'=kindOf st
 a:arrOf st'=arrOf st
 p:pendingOf st'=pendingOf st
 f:failedOf st'=failedOf st
theorem Gm.refl(st:SortSt):Gm st st:=⟨rfl,rfl,rfl,rfl⟩
theorem Gm.trans{x y z:SortSt}(h:Gm x y)(g:Gm y z):Gm x z:=⟨g.k.trans h.k,g.a.trans h.a,g.p.trans h.p,g.f.trans h.f⟩
section
variable {prog:Program}{w:World}{A:Around}{E:Value->Shared->Prop}{s:Shared}{κ:KeyKind}{kd:SortKind}
theorem zal{st:SortSt}{g:Nat}{Q:Unit->SortSt->Prop}(q:∀st',Gm st st'->Q () st'):wpS (model prog w) A E s (zoc g) Q st :=
 wpS_modify (f:=λs=>SortSt.mk' (kindOf s) (arrOf s) (pendingOf s) g (failedOf s)) (q _ ⟨rfl,rfl,rfl,rfl⟩)
end
end SQ
namespace SQ
open PySem PyProof.Rows
set_option autoImplicit false
section
variable {prog:Program}{w:World}{A:Around}{E:Value->Shared->Prop}{s:Shared}{κ:KeyKind}{kd:SortKind}
theorem zc2{xs:Array Keyed}{i:Nat}(h:i<xs.size):∃p,xs[i]?=some p/\p∈xs.toList:=⟨xs[i],Array.getElem?_eq_getElem h,by simp⟩
theorem zam{arr:Array Keyed}{base i:Nat}{k:κ.α}{p:Keyed}(e:arr[base+i]?=some p):byd κ false k arr base i = !κ.blt k (kk κ p):=by unfold byd;rw[w5 e];rfl
theorem zan{arr:Array Keyed}{base i:Nat}{k:κ.α}{p:Keyed}(e:arr[base+i]?=some p):byd κ true k arr base i=κ.blt (kk κ p) k:=by unfold byd;rw[w5 e];rfl
theorem zma{arr:Array Keyed}{base n:Nat}{k:κ.α}(sr:Srt κ arr)(hn:base+n<=arr.size):∀i j,i<=j->j<n->byd κ false k arr base j=true->byd κ false k arr base i=true:=λi j a b c=>by
 obtain⟨p,ep,_⟩:=zc2 (xs:=arr) (i:=base+i) (by omega);obtain⟨r,er,_⟩:=zc2 (xs:=arr) (i:=base+j) (by omega);rw[zam er]at c;rw[zam ep];have l:=sr.at (by omega) ep er;have c':κ.kle (kk κ r) k:=by simpa[KeyOrd.kle]using c
 have:=KeyOrd.kle_trans l c';simpa[KeyOrd.kle]using this
theorem zmb{arr:Array Keyed}{base n:Nat}{k:κ.α}(sr:Srt κ arr)(hn:base+n<=arr.size):∀i j,i<=j->j<n->byd κ true k arr base j=true->byd κ true k arr base i=true:=λi j a b c=>by
 obtain⟨p,ep,_⟩:=zc2 (xs:=arr) (i:=base+i) (by omega);obtain⟨r,er,_⟩:=zc2 (xs:=arr) (i:=base+j) (by omega);rw[zan er]at c;rw[zan ep];exact KeyOrd.klt_of_kle_of_klt (sr.at (by omega) ep er) c
theorem zv{α:Type}{c:Prop}[Decidable c]{x y:StateT SortSt Sem α}{Q:α->SortSt->Prop}{st:SortSt}{M:Model}(h1:c->wpS M A E s x Q st)(h2:¬ c->wpS M A E s y Q st):wpS M A E s (if c then x else y) Q st:=by
 by_cases h:c
 ·rw[if_pos h];exact h1 h
 ·rw[if_neg h];exact h2 h
theorem zil{α τ:Type}{p:StateT SortSt Sem α}{v:PUnit->τ->StateT SortSt Sem α}{Q:α->SortSt->Prop}{st:SortSt}{M:Model}(R:τ->Prop)(hb:(∀t,R t->wpS M A E s (v ⟨⟩ t) Q st)->wpS M A E s p Q st)(hv:∀t,R t->wpS M A E s (v ⟨⟩ t) Q st):wpS M A E s p Q st:=hb hv
theorem zbv{α τ υ:Type}{p:StateT SortSt Sem α}{v:PUnit->τ->υ->StateT SortSt Sem α}{Q:α->SortSt->Prop}{st:SortSt}{M:Model}(R:τ->υ->Prop)(hb:(∀t u,R t u->wpS M A E s (v ⟨⟩ t u) Q st)->wpS M A E s p Q st)(hv:∀t u,R t u->wpS M A E s (v ⟨⟩ t u) Q st):wpS M A E s p Q st:=hb hv
theorem st4{α β γ δ C:Type}{lo hi:Nat}{F:α->β->γ->δ->C}{P:Nat->SortSt->α->β->γ->δ->Prop}{G:Nat->C->SortSt->Prop}(h:∀x z,lo<=x->x<hi->∀a b c d,P x z a b c d->G x (F a b c d) z):∀x c z,lo<=x->x<hi->(∃a b i d,c=F a b i d/\P x z a b i d)->G x c z:=by
 intro x c z h1 h2 e;obtain⟨a,b,i,d,rfl,p⟩:=e;exact h x z h1 h2 a b i d p
theorem st5{α β γ δ ε C:Type}{lo hi:Nat}{z:SortSt}{F:α->β->γ->δ->ε->C}{P:Nat->α->β->γ->δ->ε->Prop}{G:Nat->C->SortSt->Prop}(h:∀x,lo<=x->x<hi->∀a b c d e,P x a b c d e->G x (F a b c d e) z):∀x c z',lo<=x->x<hi->(z=z'/\∃a b i d e,c=F a b i d e/\P x a b i d e)->G x c z':=by
 intro x c z' h1 h2 e;obtain⟨rfl,a,b,i,d,e,rfl,p⟩:=e;exact h x h1 h2 a b i d e p
theorem st6{α β γ δ ε ζ C:Type}{lo hi:Nat}{F:α->β->γ->δ->ε->ζ->C}{P:Nat->SortSt->α->β->γ->δ->ε->ζ->Prop}{G:Nat->C->SortSt->Prop}(h:∀x z,lo<=x->x<hi->∀a b c d e f,P x z a b c d e f->G x (F a b c d e f) z):∀x c z,lo<=x->x<hi->(∃a b i d e f,c=F a b i d e f/\P x z a b i d e f)->G x c z:=by
 intro x c z h1 h2 e;obtain⟨a,b,i,d,e,f,rfl,p⟩:=e;exact h x z h1 h2 a b i d e f p
theorem po5{ρ τ α β γ δ ε C:Type}{z:SortSt}{K:ρ->τ->C}{R:ρ->τ->Prop}{F:α->β->γ->δ->ε->C}{P:α->β->γ->δ->ε->Prop}{G:C->SortSt->Prop}(k:∀r t,R r t->G (K r t) z)(h:∀a b c d e,P a b c d e->G (F a b c d e) z):∀c z',(z=z'/\((∃r t,c=K r t/\R r t)\/∃a b i d e,c=F a b i d e/\P a b i d e))->G c z':=by
 intro c z' e;obtain⟨rfl,⟨r,t,rfl,p⟩ |⟨a,b,i,d,e,rfl,p⟩⟩:=e
 ·exact k r t p
 ·exact h a b i d e p
theorem po6{ρ τ α β γ δ ε ζ C:Type}{K:ρ->τ->C}{R:SortSt->ρ->τ->Prop}{F:α->β->γ->δ->ε->ζ->C}{P:SortSt->α->β->γ->δ->ε->ζ->Prop}{G:C->SortSt->Prop}(k:∀z r t,R z r t->G (K r t) z)(h:∀z a b c d e f,P z a b c d e f->G (F a b c d e f) z):∀c z',((∃r t,c=K r t/\R z' r t)\/∃a b i d e f,c=F a b i d e f/\P z' a b i d e f)->G c z':=by
 intro c z' e;obtain⟨r,t,rfl,p⟩ |⟨a,b,i,d,e,f,rfl,p⟩:=e
 ·exact k _ r t p
 ·exact h _ a b i d e f p
theorem exA{xs:Array Keyed}{i:Nat}{G:Prop}(h:i<xs.size)(g:∀p,xs[i]?=some p->p∈xs.toList->G):G:=by
 obtain⟨p,e,m⟩:=zc2 h;exact g p e m
theorem zjz{st:SortSt}{a b:Array Keyed}{Q:Array Keyed->SortSt->Prop}(L:qb prog w A s κ kd)(hk:kindOf st=kd)(ka:AllK κ a)(kb:AllK κ b)(sa:Srt κ a)(sb:Srt κ b)(na:1<=a.size)(nb:1<=b.size)
  (hl:∀x∈b.toList,∀y,a[a.size-1]?=some y->le κ x y) (hf:∀p,b[0]?=some p->∀y∈a.toList,le κ p y) (q:∀r st',Gm st st'->Mg κ a b r->Q r st'):wpS (model prog w) A E s (zl8 a b) Q st:=by
 have hlast:∀ia,ia+1=a.size->∀x∈b.toList,∀y∈a.toList.drop ia,le κ x y:=λia e x hx y hy=>by
  obtain⟨p,ep,_⟩:=zc2 (xs:=a) (i:=ia) (by omega);rw[xt (vx ep),List.drop_eq_nil_of_le (by simp;omega),List.mem_singleton]at hy;subst hy;exact hl x hx _ (by rw[show a.size-1=ia by omega];exact ep)
 refine wpS_bind (wpS_lift (wpAny_rule ⟨rfl,?_⟩))
 extract_lets -underBinder -merge -useContext total done lastA
 refine exA (xs:=b) (i:=0) (by omega) λp0 e0 _=>?_;refine wpS_bind (yy e0 ?_)
 extract_lets -underBinder -merge -useContext o0 i0 j0
 subst o0 i0 j0;have m0:MI κ a b #[p0] 0 1:=⟨by rw[vv (vx e0)];simp,List.pairwise_singleton _ _,λx hx y hy=>by rw[List.mem_singleton.mp hx];exact hf p0 e0 y (by simpa using hy),λx hx y hy=>by rw[List.mem_singleton.mp hx];exact sb.rest e0 y (List.mem_of_mem_drop hy)⟩
 refine zv (λc1=>wpS_pure (q _ st (Gm.refl _) (m0.fin sa sb (.inr (Nat.le_of_eq (by simpa using c1:1=b.size).symm))))) (λc1=>zv (λc2=>wpS_pure (q _ st (Gm.refl _) (m0.last sa sb (hlast 0 (by simpa using c2))))) (λc2=>?_))
 replace c1:¬ 1=b.size:=by simpa using c1
 replace c2:¬ 0+1=a.size:=by simpa using c2
 refine wpS_bind (wpS_get ?_)
 extract_lets -underBinder -merge -useContext g0
 subst g0;refine wpS_bind (wpS_mono (wpS_forRange (I:=λx c z=>∃out ia ib mg,c=(none,out,ia,ib,mg)/\Gm st z/\MI κ a b out ia ib/\ia+1<a.size/\ib<b.size/\x+1<=ia+ib)
  (Q:=λc z=>∃r rest,c=(some r,rest)/\Gm st z/\Mg κ a b r) (st4 λx z hx1 hx2 out ia ib mg h=>?_) (λc z h=>?_) ⟨_,0,1,_,rfl,Gm.refl _,m0,by omega,by omega,by omega⟩) (λc z h=>?_))
 ·have gm:=h.1;have m:=h.2.1;have ba:=h.2.2.1;have bb:=h.2.2.2.1;have prog_:=h.2.2.2.2;clear h
  extract_lets -underBinder -merge -useContext s1 o1 s2 i1 s3 j1 g1 ac1 bc1
  subst s1 o1 s2 i1 s3 j1 g1 ac1 bc1;dsimp -zeta only;have kz:=gm.k.trans hk;refine wpS_bind (wpS_mono (wpS_forRange (I:=λy c z'=>z=z'/\∃out ia ib ac bc,c=(none,out,ia,ib,ac,bc)/\MI κ a b out ia ib/\ia+1<a.size/\ib<b.size/\x+1<=ia+ib)
   (Q:=λc z'=>z=z'/\((∃r rest,c=(some r,rest)/\Mg κ a b r)\/∃out ia ib ac bc,c=(none,out,ia,ib,ac,bc)/\MI κ a b out ia ib/\ia+1<a.size/\ib<b.size/\x+1<=ia+ib))
   (st5 λy hy1 hy2 out ia ib ac bc h=>?_) (λc z' h=>?_) ⟨rfl,_,_,_,_,_,rfl,m,ba,bb,prog_⟩) (po5 (λr rest hr=>wpS_pure ⟨r,_,rfl,gm,hr⟩) λout ia ib ac bc h=>?_))
  ·have m:=h.1;have ba:=h.2.1;have bb:=h.2.2.1;have prog_:=h.2.2.2;clear h
   try dsimp only
   refine exA (xs:=b) (i:=ib) bb λpb eb mb=>?_;refine exA (xs:=a) (i:=ia) (by omega) λpa ea ma=>?_;refine wpS_bind (yy eb (wpS_bind (yy ea (wpS_bind (zl6 L kz (kb _ mb) (ka _ ma) ?_)))))
   cases cb:κ.blt (kk κ pb) (kk κ pa) with
   |true=>
    dsimp only;rw[if_pos rfl];refine wpS_bind (yy eb ?_);have m':=m.pushB sb eb λy hy=>le_trans (show le κ pb pa from KeyOrd.kle_of_klt cb) (sa.rest ea y hy)
    by_cases d1:ib+1=b.size
    ·rw[if_pos (by simpa using d1)];exact wpS_pure ⟨rfl,.inl ⟨_,_,rfl,m'.fin sa sb (.inr (by omega))⟩⟩
    ·rw[if_neg (by simpa using d1)];refine zv (λ_=>?_) (λ_=>?_)
     ·exact wpS_pure ⟨rfl,.inr ⟨_,_,_,_,_,rfl,m',ba,by omega,by omega⟩⟩
     ·exact wpS_pure ⟨rfl,_,_,_,_,_,rfl,m',ba,by omega,by omega⟩
   |false=>
    dsimp only;rw[if_neg (by decide)];refine wpS_bind (yy ea ?_);have m':=m.pushA sa ea λy hy=>le_trans (show le κ pa pb from cb) (sb.rest eb y hy)
    by_cases d1:ia+1+1=a.size
    ·rw[if_pos (by simpa using d1)];exact wpS_pure ⟨rfl,.inl ⟨_,_,rfl,m'.last sa sb (hlast _ d1)⟩⟩
    ·rw[if_neg (by simpa using d1)];refine zv (λ_=>?_) (λ_=>?_)
     ·exact wpS_pure ⟨rfl,.inr ⟨_,_,_,_,_,rfl,m',by omega,by omega,by omega⟩⟩
     ·exact wpS_pure ⟨rfl,_,_,_,_,_,rfl,m',by omega,by omega,by omega⟩
  ·obtain⟨rfl,h⟩:=h;exact⟨rfl,.inr h⟩
  ·skip
   ·have m:=h.1;have ba:=h.2.1;have bb:=h.2.2.1;have prog_:=h.2.2.2;clear h
    extract_lets -underBinder -merge -useContext r1 s1 o1 s2 i1 s3 j1 s4 ac1 bc1
    subst r1 s1 o1 s2 i1 s3 j1 s4 ac1 bc1;dsimp -zeta only;refine wpS_bind (wpS_lift (wpAny_rule ⟨rfl,?_⟩));refine wpS_bind (wpS_mono (wpS_forRange (I:=λy c z'=>∃out ia ib mg ac bc,c=(none,out,ia,ib,mg,ac,bc)/\Gm st z'/\MI κ a b out ia ib/\ia+1<a.size/\ib<b.size/\x+1+y<=ia+ib)
     (Q:=λc z'=>(∃r rest,c=(some r,rest)/\Gm st z'/\Mg κ a b r)\/∃out ia ib mg ac bc,c=(none,out,ia,ib,mg,ac,bc)/\Gm st z'/\MI κ a b out ia ib/\ia+1<a.size/\ib<b.size/\x+1+1<=ia+ib)
     (st6 λy z' hy1 hy2 out ia ib mg ac bc h=>?_) (λc z' h=>?_) ⟨_,_,_,_,_,_,rfl,gm,m,ba,bb,by omega⟩) (po6 (λz' r rest hr=>wpS_pure ⟨r,_,rfl,hr.1,hr.2⟩) λz' out ia ib mg ac bc h=>?_))
    ·have gm':=h.1;have m:=h.2.1;have ba:=h.2.2.1;have bb:=h.2.2.2.1;have prog_:=h.2.2.2.2;clear h
     extract_lets -underBinder -merge -useContext s1 o1 s2 i1 s3 j1 s4 g1 s5 ac1 bc1 jp
     subst s1 o1 s2 i1 s3 j1 s4 g1 s5 ac1 bc1;dsimp -zeta only;refine exA (xs:=b) (i:=ib) bb λpb eb mb=>?_;refine zil (v:=jp) (λ_=>True) (λhj=>zv (λ_=>hj _ trivial) (λ_=>hj _ trivial)) (λmg1 _=>?_);dsimp -zeta only [jp];refine wpS_bind (zal λz2 g2=>?_);have gm2:=gm'.trans g2;have kz2:=gm2.k.trans hk;refine wpS_bind (yy eb (wpS_bind (vt L kz2 (ka.ky ia (a.size-ia) (by omega)) (kb _ mb) (by omega) (zma sa (by omega)) λk hk1 hk2 hk3=>?_)));dsimp -zeta only
     extract_lets -underBinder -merge -useContext ac1 jp2
     subst ac1;refine zbv (v:=jp2) (λo i=>MI κ a b o i ib/\i+1<a.size/\ia<=i/\∀y∈a.toList.drop i,le κ pb y) (λhj=>?_) (λo i h=>?_)
     rotate_left
     ·dsimp -zeta only [jp2];clear jp2 jp;have m2:=h.1;have b2:=h.2.1;have l2:=h.2.2.1;have n2:=h.2.2.2;clear h;refine wpS_bind (yy eb ?_)
      extract_lets -underBinder -merge -useContext o1 j1
      subst o1 j1;have m3:=m2.pushB sb eb n2;refine zv (λd=>wpS_pure (.inl ⟨_,_,rfl,gm2,m3.fin sa sb (.inr (Nat.le_of_eq (by simpa using d:ib+1=b.size).symm))⟩)) (λd=>?_);have d1:¬ (ib+1=b.size):=by simpa using d
      refine exA (xs:=a) (i:=i) (by omega) λpa ea ma=>?_;refine wpS_bind (yy ea (wpS_bind (vt L kz2 (kb.ky (ib+1) (b.size-(ib+1)) (by omega)) (ka _ ma) (by omega) (zmb sb (by omega)) λk2 g1 g3 g4=>?_)));dsimp -zeta only
      extract_lets -underBinder -merge -useContext bc1 jp
      subst bc1;refine zbv (v:=jp) (λo u=>MI κ a b o i u/\u<b.size/\ib+1<=u/\∀y∈b.toList.drop u,le κ pa y) (λhj=>?_) (λo u h=>?_)
      rotate_left
      ·dsimp -zeta only [jp];clear jp;have m4:=h.1;have b4:=h.2.1;have l4:=h.2.2.1;have n4:=h.2.2.2;clear h;refine wpS_bind (yy ea ?_)
       extract_lets -underBinder -merge -useContext o1 i1
       subst o1 i1;have m5:=m4.pushA sa ea n4;refine zv (λd=>wpS_pure (.inl ⟨_,_,rfl,gm2,m5.last sa sb (hlast _ (by simpa using d))⟩)) (λd=>?_);have d6:¬ (i+1+1=a.size):=by simpa using d
       have d5:i+1+1<a.size:=by omega
       refine zv (λ_=>wpS_pure (.inr ⟨_,_,_,_,_,_,rfl,gm2,m5,d5,b4,by omega⟩)) (λ_=>wpS_pure ⟨_,_,_,_,_,_,rfl,gm2,m5,d5,b4,by omega⟩)
      ·have mk2:=m3.chunkB sb k2 (by omega) λi hi p ep y hy=>by
        have:=g3 i hi;rw[zan ep]at this;exact le_trans (show le κ p pa from KeyOrd.kle_of_klt this) (sa.rest ea y hy)
       have nx2:ib+1+k2<b.size->∀y∈b.toList.drop (ib+1+k2),le κ pa y:=λhlt y hy=>by
        obtain⟨p,ep,_⟩:=zc2 (xs:=b) (i:=ib+1+k2) hlt;have:=g4 k2 (Nat.le_refl _) (by omega);rw[zan ep]at this;exact le_trans (show le κ pa p from this) (sb.rest ep y hy)
       refine zv (λk0=>zv (λd=>wpS_pure (.inl ⟨_,_,rfl,gm2,mk2.fin sa sb (.inr (Nat.le_of_eq (by simpa using d:ib+1+k2=b.size).symm))⟩)) (λd=>?_)) (λk0=>?_)
       ·have d2:¬ (ib+1+k2=b.size):=by simpa using d
        exact hj _ _ ⟨mk2,by omega,by omega,nx2 (by omega)⟩
       ·have k2e:k2=0:=by omega
        subst k2e;exact hj _ _ ⟨m3,by omega,by omega,nx2 (by omega)⟩
     ·have ck:∀i,i<k->∀p,a[ia+i]?=some p->∀y∈b.toList.drop ib,le κ p y:=λi hi p ep y hy=>by
       have:=hk2 i hi;rw[zam ep]at this;exact le_trans (show le κ p pb from by simpa[le,KeyOrd.kle]using this) (sb.rest eb y hy)
      have mk:=m.chunkA sa k (by omega) ck;have nx:ia+k<a.size->∀y∈a.toList.drop (ia+k),le κ pb y:=λhlt y hy=>by
       obtain⟨p,ep,_⟩:=zc2 (xs:=a) (i:=ia+k) hlt;have:=hk3 k (Nat.le_refl _) (by omega);rw[zam ep]at this;exact le_trans (show le κ pb p from KeyOrd.kle_of_klt (by simpa[KeyOrd.klt]using this)) (sa.rest ep y hy)
      refine zv (λk0=>zv (λd=>wpS_pure (.inl ⟨_,_,rfl,gm2,mk.last sa sb (hlast _ (by simpa using d))⟩)) (λd=>zv (λd2=>wpS_pure (.inl ⟨_,_,rfl,gm2,mk.fin sa sb (.inl (Nat.le_of_eq (by simpa using d2:ia+k=a.size).symm))⟩)) (λd2=>?_))) (λk0=>?_)
      ·have d3:¬ (ia+k+1=a.size):=by simpa using d
       have d4:¬ (ia+k=a.size):=by simpa using d2
       exact hj _ _ ⟨mk,by omega,by omega,nx (by omega)⟩
      ·have ke:k=0:=by omega
       subst ke;exact hj _ _ ⟨m,ba,by omega,nx (by omega)⟩
    ·obtain⟨out,ia,ib,mg,ac,bc,rfl,gm',m,ba,bb,prog_⟩:=h;exact .inr ⟨_,_,_,_,_,_,rfl,gm',m,ba,bb,by omega⟩
    ·dsimp only;refine wpS_bind (zal λz2 g2=>wpS_pure ⟨_,_,_,_,rfl,h.1.trans g2,h.2.1,h.2.2.1,h.2.2.2.1,by omega⟩)
 ·obtain⟨out,ia,ib,mg,rfl,gm,m,ba,bb,prog_⟩:=h;omega
 ·obtain⟨r,rest,rfl,gm,hr⟩:=h;exact wpS_pure (q r z gm hr)
end
end SQ
namespace SQ
open PySem PyProof.Rows
set_option autoImplicit false
structure MH(κ:KeyKind)(a b out:Array Keyed)(na nb:Nat):Prop where
 perm:out.toList.reverse.Perm (a.toList.drop na++b.toList.drop nb)
 sort:out.toList.reverse.Pairwise (le κ)
 la:∀x∈a.toList.take na,∀y∈out.toList.reverse,le κ x y
 lb:∀x∈b.toList.take nb,∀y∈out.toList.reverse,le κ x y
theorem zbw{xs:Array Keyed}{n:Nat}{x:Keyed}(h:x∈xs.toList.take n):∃i,i<n/\xs[i]?=some x:=by
 obtain⟨i,hi,e⟩:=List.mem_iff_getElem.mp h;refine⟨i,by rw[List.length_take]at hi;omega,?_⟩;rw[List.getElem_take]at e;rw[List.length_take]at hi;rw[<-Array.getElem?_toList,List.getElem?_eq_getElem (by omega),e]
section
variable {κ:KeyKind}{a b out:Array Keyed}{na nb:Nat}
theorem Srt.upto{xs:Array Keyed}(h:Srt κ xs){n:Nat}{p:Keyed}(h1:1<=n)(e:xs[n-1]?=some p):∀x∈xs.toList.take n,le κ x p:=λx hx=>by
 obtain⟨i,hi,ei⟩:=zbw hx;exact h.at (by omega) ei e
theorem jy{xs:Array Keyed}{n:Nat}{p:Keyed}(h1:1<=n)(e:xs[n-1]?=some p):xs.toList.drop (n-1)=p::xs.toList.drop n:=by
 have:=xt (vx e)
 rwa [show n-1+1=n by omega]at this
theorem ki{xs:Array Keyed}{n:Nat}{x:Keyed}(h:x∈xs.toList.take (n-1)):x∈xs.toList.take n:=by
 have:xs.toList.take (n-1)=(xs.toList.take n).take (n-1):=by rw[List.take_take,show min (n-1) n=n-1 by omega]
 rw[this]at h;exact List.mem_of_mem_take h
theorem MH.pushA(m:MH κ a b out na nb)(h1:1<=na)(sa:Srt κ a){p:Keyed}(e:a[na-1]?=some p)(h:∀x∈b.toList.take nb,le κ x p):MH κ a b (out.push p) (na-1) nb where
 perm:=by
  rw[Array.toList_push,List.reverse_append,jy h1 e];exact List.Perm.cons p m.perm
 sort:=by
  rw[Array.toList_push,List.reverse_append];refine List.pairwise_cons.mpr ⟨λy hy=>?_,m.sort⟩;obtain⟨q,eq⟩:∃q,q=na-1:=⟨_,rfl⟩
  exact m.la p (by
   have:na=(na-1)+1:=by omega
   rw[this,vv (vx e)];simp) y hy
 la:=λx hx y hy=>by
  rw[Array.toList_push,List.reverse_append]at hy;rcases List.mem_cons.mp hy with rfl|hy
  ·exact sa.upto h1 e x (ki hx)
  ·exact m.la x (ki hx) y hy
 lb:=λx hx y hy=>by
  rw[Array.toList_push,List.reverse_append]at hy;rcases List.mem_cons.mp hy with rfl|hy
  ·exact h x hx
  ·exact m.lb x hx y hy
theorem MH.pushB(m:MH κ a b out na nb)(h1:1<=nb)(sb:Srt κ b){p:Keyed}(e:b[nb-1]?=some p)(h:∀x∈a.toList.take na,le κ x p):MH κ a b (out.push p) na (nb-1) where
 perm:=by
  rw[Array.toList_push,List.reverse_append,jy h1 e];exact(List.Perm.cons p m.perm).trans List.perm_middle.symm
 sort:=by
  rw[Array.toList_push,List.reverse_append];refine List.pairwise_cons.mpr ⟨λy hy=>?_,m.sort⟩;exact m.lb p (by
   have:nb=(nb-1)+1:=by omega
   rw[this,vv (vx e)];simp) y hy
 lb:=λx hx y hy=>by
  rw[Array.toList_push,List.reverse_append]at hy;rcases List.mem_cons.mp hy with rfl|hy
  ·exact sb.upto h1 e x (ki hx)
  ·exact m.lb x (ki hx) y hy
 la:=λx hx y hy=>by
  rw[Array.toList_push,List.reverse_append]at hy;rcases List.mem_cons.mp hy with rfl|hy
  ·exact h x hx
  ·exact m.la x hx y hy
theorem zfz{xs:Array Keyed}{i n:Nat}{p:Keyed}(hn:i<n)(h:n<=xs.size)(e:xs[i]?=some p):(xs.extract i n).reverse=((xs.extract (i+1) n).reverse).push p:=by
 apply Array.ext';rw[Array.toList_push,Array.toList_reverse,Array.toList_reverse,Array.toList_extract,Array.toList_extract];simp only[List.extract_eq_take_drop];rw[xt (vx e),show n-i=(n-(i+1))+1 by omega,List.take_succ_cons,List.reverse_cons]
theorem MH.chunkA(m:MH κ a b out na nb)(sa:Srt κ a)(hn:na<=a.size):∀k:Nat,k<=na->(∀i,k<=i->i<na->∀p,a[i]?=some p->∀x∈b.toList.take nb,le κ x p)->MH κ a b (out++(a.extract k na).reverse) k nb:=by
 intro k hk h;obtain⟨d,hd⟩:∃d,na-k=d:=⟨_,rfl⟩
 induction d generalizing k with
 |zero=>
  have:k=na:=by omega
  subst this;rw[show a.extract k k = #[] by have:=zak a k;rwa [Nat.add_zero]at this,Array.reverse_empty,Array.append_empty];exact m
 |succ d ih=>
  have e:a[k]?=some (a[k]'(by omega)):=Array.getElem?_eq_getElem _;have:=ih (k+1) (by omega) (λi h1 h2=>h i (by omega) h2) (by omega);rw[zfz (by omega) hn e,Array.append_push];have r:=this.pushA (by omega) sa (by rw[show k+1-1=k by omega];exact e) (h k (Nat.le_refl _) (by omega) _ e)
  rwa [show k+1-1=k by omega]at r
theorem MH.chunkB'(m:MH κ a b out na nb)(sb:Srt κ b)(hn:nb<=b.size):∀k:Nat,k<=nb->(∀i,k<=i->i<nb->∀p,b[i]?=some p->∀x∈a.toList.take na,le κ x p)->MH κ a b (out++(b.extract k nb).reverse) na k:=by
 intro k hk h;obtain⟨d,hd⟩:∃d,nb-k=d:=⟨_,rfl⟩
 induction d generalizing k with
 |zero=>
  have:k=nb:=by omega
  subst this;rw[show b.extract k k = #[] by have:=zak b k;rwa [Nat.add_zero]at this,Array.reverse_empty,Array.append_empty];exact m
 |succ d ih=>
  have e:b[k]?=some (b[k]'(by omega)):=Array.getElem?_eq_getElem _;have:=ih (k+1) (by omega) (λi h1 h2=>h i (by omega) h2) (by omega);rw[zfz (by omega) hn e,Array.append_push];have r:=this.pushB (by omega) sb (by rw[show k+1-1=k by omega];exact e) (h k (Nat.le_refl _) (by omega) _ e)
  rwa [show k+1-1=k by omega]at r
theorem wg(xs:Array Keyed)(n:Nat):(xs.extract 0 n).toList=xs.toList.take n:=by
 rw[Array.toList_extract,List.extract_eq_take_drop,List.drop_zero,Nat.sub_zero]
theorem zim{α:Type}{o x y u v:List α}(h:o.Perm (x++y)):(u++v++o).Perm ((u++x)++(v++y)):=by
 refine(List.Perm.append_left _ h).trans ?_;rw[List.append_assoc,List.append_assoc u x];refine List.Perm.append_left u ?_;rw[<-List.append_assoc,<-List.append_assoc];exact List.Perm.append_right y List.perm_append_comm
theorem MH.fin(m:MH κ a b out na nb)(sa:Srt κ a)(sb:Srt κ b)(h:na=0\/nb=0):Mg κ a b (a.extract 0 na++b.extract 0 nb++out.reverse):=by
 refine⟨?_,?_⟩
 ·rw[Array.toList_append,Array.toList_append,wg,wg,Array.toList_reverse];have:=zim (u:=a.toList.take na) (v:=b.toList.take nb) m.perm
  rwa [List.take_append_drop,List.take_append_drop]at this
 ·rw[Array.toList_append,Array.toList_append,wg,wg,Array.toList_reverse];rcases h with rfl|rfl
  ·rw[List.take_zero,List.nil_append];exact List.pairwise_append.mpr ⟨sb.take,m.sort,m.lb⟩
  ·rw[List.take_zero,List.append_nil];exact List.pairwise_append.mpr ⟨sa.take,m.sort,m.la⟩
theorem MH.first(m:MH κ a b out na nb)(sa:Srt κ a)(sb:Srt κ b)(h:∀x∈b.toList.take nb,∀y∈a.toList,le κ x y):Mg κ a b (b.extract 0 nb++a.extract 0 na++out.reverse):=by
 refine⟨?_,?_⟩
 ·rw[Array.toList_append,Array.toList_append,wg,wg,Array.toList_reverse];have:=zim (u:=b.toList.take nb) (v:=a.toList.take na) (m.perm.trans List.perm_append_comm);rw[List.take_append_drop,List.take_append_drop]at this;exact this.trans List.perm_append_comm
 ·rw[Array.toList_append,Array.toList_append,wg,wg,Array.toList_reverse];refine List.pairwise_append.mpr ⟨List.pairwise_append.mpr ⟨sb.take,sa.take,λx hx y hy=>h x hx y (List.mem_of_mem_take hy)⟩,m.sort,λx hx y hy=>?_⟩;rcases List.mem_append.mp hx with hx|hx
  ·exact m.lb x hx y hy
  ·exact m.la x hx y hy
end
section
variable {prog:Program}{w:World}{A:Around}{E:Value->Shared->Prop}{s:Shared}{κ:KeyKind}{kd:SortKind}
theorem zj0{st:SortSt}{a b:Array Keyed}{Q:Array Keyed->SortSt->Prop}(L:qb prog w A s κ kd)(hk:kindOf st=kd)(ka:AllK κ a)(kb:AllK κ b)(sa:Srt κ a)(sb:Srt κ b)(sa1:1<=a.size)(sb1:1<=b.size)
  (hl:∀x∈b.toList,∀y,a[a.size-1]?=some y->le κ x y) (hf:∀p,b[0]?=some p->∀y∈a.toList,le κ p y) (q:∀r st',Gm st st'->Mg κ a b r->Q r st'):wpS (model prog w) A E s (zl9 a b) Q st:=by
 have hfirst:∀nb,nb<=1->∀x∈b.toList.take nb,∀y∈a.toList,le κ x y:=λnb h1 x hx y hy=>by
  obtain⟨i,hi,e⟩:=zbw hx;have:i=0:=by omega
  subst this;exact hf x e y hy
 refine wpS_bind (wpS_lift (wpAny_rule ⟨rfl,?_⟩))
 extract_lets -underBinder -merge -useContext total done firstB na0 nb0
 subst na0 nb0;refine exA (xs:=a) (i:=a.size-1) (by omega) λp0 e0 _=>?_;refine wpS_bind (yy e0 ?_)
 extract_lets -underBinder -merge -useContext o0
 subst o0;have m0:MH κ a b #[p0] (a.size-1) b.size:=⟨by
   rw[jy sa1 e0,List.drop_eq_nil_of_le (by simp),List.drop_eq_nil_of_le (by simp)];simp,by simp,λx hx y hy=>by
   have hy:y=p0:=by simpa using hy
   subst hy;exact sa.upto sa1 e0 x (ki hx),λx hx y hy=>by
   have hy:y=p0:=by simpa using hy
   subst hy;exact hl x (List.mem_of_mem_take hx) _ e0⟩
 refine zv (λc1=>?_) (λc1=>zv (λc2=>?_) (λc2=>?_))
 ·exact wpS_pure (q _ st (Gm.refl _) (m0.fin sa sb (.inl (by simpa using c1))))
 ·exact wpS_pure (q _ st (Gm.refl _) (m0.first sa sb (hfirst _ (Nat.le_of_eq (by simpa using c2)))))
 have c3:¬ (a.size-1=0):=by simpa using c1
 have c4:¬ (b.size=1):=by simpa using c2
 refine wpS_bind (wpS_get ?_)
 extract_lets -underBinder -merge -useContext g0
 subst g0;refine wpS_bind (wpS_mono (wpS_forRange (I:=λx c z=>∃na nb out mg,c=(none,na,nb,out,mg)/\Gm st z/\MH κ a b out na nb/\(1<=na/\na<=a.size)/\(2<=nb/\nb<=b.size)/\na+nb+(x+1)<=a.size+b.size)
  (Q:=λc z=>∃r rest,c=(some r,rest)/\Gm st z/\Mg κ a b r) (st4 λx z hx1 hx2 na nb out mg h=>?_) (λc z h=>?_) ⟨_,_,_,_,rfl,Gm.refl _,m0,by omega,by omega,by omega⟩) (λc z h=>?_))
 ·have gm:=h.1;have m:=h.2.1;have ba:=h.2.2.1;have bb:=h.2.2.2.1;have prog_:=h.2.2.2.2;clear h
  extract_lets -underBinder -merge -useContext s1 o1 s2 i1 s3 j1 g1 ac1 bc1
  subst s1 o1 s2 i1 s3 j1 g1 ac1 bc1;dsimp -zeta only;have kz:=gm.k.trans hk;refine wpS_bind (wpS_mono (wpS_forRange (I:=λy c z'=>z=z'/\∃na nb out ac bc,c=(none,na,nb,out,ac,bc)/\MH κ a b out na nb/\(1<=na/\na<=a.size)/\(2<=nb/\nb<=b.size)/\na+nb+(x+1)<=a.size+b.size)
   (Q:=λc z'=>z=z'/\((∃r rest,c=(some r,rest)/\Mg κ a b r)\/∃na nb out ac bc,c=(none,na,nb,out,ac,bc)/\MH κ a b out na nb/\(1<=na/\na<=a.size)/\(2<=nb/\nb<=b.size)/\na+nb+(x+1)<=a.size+b.size))
   (st5 λy hy1 hy2 na nb out ac bc h=>?_) (λc z' h=>?_) ⟨rfl,_,_,_,_,_,rfl,m,ba,bb,prog_⟩) (po5 (λr rest hr=>wpS_pure ⟨r,_,rfl,gm,hr⟩) λna nb out ac bc h=>?_))
  ·have m:=h.1;have ba:=h.2.1;have bb:=h.2.2.1;have prog_:=h.2.2.2;clear h;dsimp only;refine exA (xs:=b) (i:=nb-1) (by omega) λpb eb mb=>?_;refine exA (xs:=a) (i:=na-1) (by omega) λpa ea ma=>?_;refine wpS_bind (yy eb (wpS_bind (yy ea (wpS_bind (zl6 L kz (kb _ mb) (ka _ ma) ?_)))))
   cases cb:κ.blt (kk κ pb) (kk κ pa) with
   |true=>
    dsimp only;rw[if_pos rfl];refine wpS_bind (yy ea ?_);have m':=m.pushA ba.1 sa ea λx hx=>le_trans (sb.upto (by omega) eb x hx) (show le κ pb pa from KeyOrd.kle_of_klt cb);refine zv (λd=>wpS_pure ⟨rfl,.inl ⟨_,_,rfl,m'.fin sa sb (.inl (by simpa using d))⟩⟩) (λd=>?_);have d1:¬ (na-1=0):=by simpa using d
    refine zv (λ_=>wpS_pure ⟨rfl,.inr ⟨_,_,_,_,_,rfl,m',by omega,bb,by omega⟩⟩) (λ_=>wpS_pure ⟨rfl,_,_,_,_,_,rfl,m',by omega,bb,by omega⟩)
   |false=>
    dsimp only;rw[if_neg (by decide)];refine wpS_bind (yy eb ?_);have m':=m.pushB (by omega) sb eb λx hx=>le_trans (sa.upto ba.1 ea x hx) (show le κ pa pb from cb);refine zv (λd=>wpS_pure ⟨rfl,.inl ⟨_,_,rfl,m'.first sa sb (hfirst _ (Nat.le_of_eq (by simpa using d)))⟩⟩) (λd=>?_);have d1:¬ (nb-1=1):=by simpa using d
    refine zv (λ_=>wpS_pure ⟨rfl,.inr ⟨_,_,_,_,_,rfl,m',ba,by omega,by omega⟩⟩) (λ_=>wpS_pure ⟨rfl,_,_,_,_,_,rfl,m',ba,by omega,by omega⟩)
  ·obtain⟨rfl,h⟩:=h;exact⟨rfl,.inr h⟩
  ·skip
   ·have m:=h.1;have ba:=h.2.1;have bb:=h.2.2.1;have prog_:=h.2.2.2;clear h
    extract_lets -underBinder -merge -useContext r1 s1 o1 s2 i1 s3 j1 s4 ac1 bc1
    subst r1 s1 o1 s2 i1 s3 j1 s4 ac1 bc1;dsimp -zeta only;refine wpS_bind (wpS_lift (wpAny_rule ⟨rfl,?_⟩));refine wpS_bind (wpS_mono (wpS_forRange (I:=λy c z'=>∃na nb out mg ac bc,c=(none,na,nb,out,mg,ac,bc)/\Gm st z'/\MH κ a b out na nb/\(1<=na/\na<=a.size)/\(2<=nb/\nb<=b.size)/\na+nb+(x+1+y)<=a.size+b.size)
     (Q:=λc z'=>(∃r rest,c=(some r,rest)/\Gm st z'/\Mg κ a b r)\/∃na nb out mg ac bc,c=(none,na,nb,out,mg,ac,bc)/\Gm st z'/\MH κ a b out na nb/\(1<=na/\na<=a.size)/\(2<=nb/\nb<=b.size)/\na+nb+(x+1+1)<=a.size+b.size)
     (st6 λy z' hy1 hy2 na nb out mg ac bc h=>?_) (λc z' h=>?_) ⟨_,_,_,_,_,_,rfl,gm,m,ba,bb,by omega⟩) (po6 (λz' r rest hr=>wpS_pure ⟨r,_,rfl,hr.1,hr.2⟩) λz' na nb out mg ac bc h=>?_))
    ·have gm':=h.1;have m:=h.2.1;have ba:=h.2.2.1;have bb:=h.2.2.2.1;have prog_:=h.2.2.2.2;clear h
     extract_lets -underBinder -merge -useContext s1 o1 s2 i1 s3 j1 s4 g1 s5 ac1 bc1 jp
     subst s1 o1 s2 i1 s3 j1 s4 g1 s5 ac1 bc1;dsimp -zeta only;refine exA (xs:=b) (i:=nb-1) (by omega) λpb eb mb=>?_;refine zil (v:=jp) (λ_=>True) (λhj=>zv (λ_=>hj _ trivial) (λ_=>hj _ trivial)) (λmg1 _=>?_);dsimp -zeta only [jp];refine wpS_bind (zal λz2 g2=>?_);have gm2:=gm'.trans g2;have kz2:=gm2.k.trans hk;refine wpS_bind (yy eb (wpS_bind (vt L kz2 (ka.ky 0 na (by omega)) (kb _ mb) (by omega) (zma sa (by omega)) λk hk1 hk2 hk3=>?_)));dsimp -zeta only
     extract_lets -underBinder -merge -useContext k1 ac1 jp2
     subst ac1 k1;refine zbv (v:=jp2) (λ(i:Nat) o=>MH κ a b o i nb/\(1<=i/\i<=na)/\∀x∈a.toList.take i,le κ x pb) (λhj=>?_) (λi o h=>?_)
     rotate_left
     ·dsimp -zeta only [jp2];clear jp2 jp
      extract_lets -underBinder -merge -useContext n1
      subst n1;have m2:=h.1;have b2:=h.2.1;have n2:=h.2.2;clear h;refine wpS_bind (yy eb ?_)
      extract_lets -underBinder -merge -useContext o1
      subst o1;have m3:=m2.pushB (by omega) sb eb n2;refine zv (λd=>wpS_pure (.inl ⟨_,_,rfl,gm2,m3.first sa sb (hfirst _ (Nat.le_of_eq (by simpa using d)))⟩)) (λd=>?_);have d1:¬ (nb-1=1):=by simpa using d
      refine exA (xs:=a) (i:=i-1) (by omega) λpa ea ma=>?_;refine wpS_bind (yy ea (wpS_bind (vt L kz2 (kb.ky 0 (nb-1) (by omega)) (ka _ ma) (by omega) (zmb sb (by omega)) λk2 g1 g3 g4=>?_)));dsimp -zeta only
      extract_lets -underBinder -merge -useContext k1 bc1 jp
      subst bc1 k1;refine zbv (v:=jp) (λ(u:Nat) o=>MH κ a b o i u/\(2<=u/\u<=nb-1)/\∀x∈b.toList.take u,le κ x pa) (λhj=>?_) (λu o h=>?_)
      rotate_left
      ·dsimp -zeta only [jp];clear jp
       extract_lets -underBinder -merge -useContext n1
       subst n1;have m4:=h.1;have b4:=h.2.1;have n4:=h.2.2;clear h;refine wpS_bind (yy ea ?_)
       extract_lets -underBinder -merge -useContext o1
       subst o1;have m5:=m4.pushA (by omega) sa ea n4;refine zv (λd=>wpS_pure (.inl ⟨_,_,rfl,gm2,m5.fin sa sb (.inl (by simpa using d))⟩)) (λd=>?_);have d6:¬ (i-1=0):=by simpa using d
       refine zv (λ_=>wpS_pure (.inr ⟨_,_,_,_,_,_,rfl,gm2,m5,by omega,by omega,by omega⟩)) (λ_=>wpS_pure ⟨_,_,_,_,_,_,rfl,gm2,m5,by omega,by omega,by omega⟩)
      ·have mk2:=m3.chunkB' sb (by omega) k2 g1 λi h1 h2 p ep x hx=>by
        have:=g4 i h1 h2;rw[zan (by rw[Nat.zero_add];exact ep)]at this;exact le_trans (sa.upto (by omega) ea x hx) (show le κ pa p from this)
       have nx2:∀x∈b.toList.take k2,le κ x pa:=λx hx=>by
        obtain⟨i,hi,ei⟩:=zbw hx;have:=g3 i hi;rw[zan (by rw[Nat.zero_add];exact ei)]at this;exact KeyOrd.kle_of_klt this
       refine zv (λk0=>zv (λd=>wpS_pure (.inl ⟨_,_,rfl,gm2,mk2.first sa sb (hfirst _ (Nat.le_of_eq (by simpa using d)))⟩)) (λd=>zv (λd2=>wpS_pure (.inl ⟨_,_,rfl,gm2,mk2.fin sa sb (.inr (by simpa using d2))⟩)) (λd2=>?_))) (λk0=>?_)
       ·have d3:¬ (k2=1):=by simpa using d
        have d4:¬ (k2=0):=by simpa using d2
        exact hj _ _ ⟨mk2,by omega,nx2⟩
       ·have k2e:k2=nb-1:=by omega
        subst k2e;exact hj _ _ ⟨m3,by omega,nx2⟩
     ·have ck:∀i,k<=i->i<na->∀p,a[i]?=some p->∀x∈b.toList.take nb,le κ x p:=λi h1 h2 p ep x hx=>by
       have:=hk3 i h1 h2;rw[zam (by rw[Nat.zero_add];exact ep)]at this;exact le_trans (sb.upto (by omega) eb x hx) (show le κ pb p from KeyOrd.kle_of_klt (by simpa[KeyOrd.klt]using this))
      have mk:=m.chunkA sa (by omega) k hk1 ck;have nx:∀x∈a.toList.take k,le κ x pb:=λx hx=>by
       obtain⟨i,hi,ei⟩:=zbw hx;have:=hk2 i hi;rw[zam (by rw[Nat.zero_add];exact ei)]at this;simpa[le,KeyOrd.kle]using this
      refine zv (λk0=>zv (λd=>wpS_pure (.inl ⟨_,_,rfl,gm2,mk.fin sa sb (.inl (by simpa using d))⟩)) (λd=>?_)) (λk0=>?_)
      ·have d3:¬ (k=0):=by simpa using d
       exact hj _ _ ⟨mk,by omega,nx⟩
      ·have ke:k=na:=by omega
       subst ke;exact hj _ _ ⟨m,by omega,nx⟩
    ·obtain⟨na,nb,out,mg,ac,bc,rfl,gm',m,ba,bb,prog_⟩:=h;exact .inr ⟨_,_,_,_,_,_,rfl,gm',m,ba,bb,by omega⟩
    ·dsimp only;refine wpS_bind (zal λz2 g2=>wpS_pure ⟨_,_,_,_,rfl,h.1.trans g2,h.2.1,h.2.2.1,h.2.2.2.1,by omega⟩)
 ·obtain⟨na,nb,out,mg,rfl,gm,m,ba,bb,prog_⟩:=h;omega
 ·obtain⟨r,rest,rfl,gm,hr⟩:=h;exact wpS_pure (q r z gm hr)
end
end SQ
namespace SQ
open PySem PyProof.Rows
set_option autoImplicit false
theorem zin(at_:Nat):∀(l:List Keyed) (n:Nat) (xs:Array Keyed),at_+n+l.length<=xs.size ->
  ((l.zipIdx n).foldl (λa pj=>a.setIfInBounds (at_+pj.2) pj.1) xs).toList=xs.toList.take (at_+n)++l++xs.toList.drop (at_+n+l.length)
 |[],n,xs,_=>by simp
 |p::l,n,xs,h=>by
  rw[List.length_cons]at h;rw[List.zipIdx_cons,List.foldl_cons,zin at_ l (n+1) _ (by simpa using (by omega:at_+(n+1)+l.length<=xs.size))];simp only[Array.toList_setIfInBounds,List.length_cons];have hl:at_+n<xs.toList.length:=by simpa using (by omega:at_+n<xs.size)
  rw[List.drop_set_of_lt (by omega),show at_+(n+1)=(at_+n)+1 by omega,List.take_add_one,List.getElem?_set_self hl,List.take_set_of_le (Nat.le_refl _)];simp[Nat.add_assoc,Nat.add_comm,Nat.add_left_comm]
theorem zep{xs:Array Keyed}{lo n i:Nat}(hi:i<n):((xs.toList.drop lo).take n)[i]?=xs[lo+i]?:=by
 rw[List.getElem?_take_of_lt hi,List.getElem?_drop,Array.getElem?_toList]
theorem zdk{κ:KeyKind}{xs:Array Keyed}{lo n:Nat}(h:lo+n<=xs.size):Up κ xs lo n↔((xs.toList.drop lo).take n).Pairwise (le κ):=by
 have len:((xs.toList.drop lo).take n).length=n:=by simp;omega
 have el:∀i (hi:i<n),∃p,xs[lo+i]?=some p/\((xs.toList.drop lo).take n)[i]?=some p:=λi hi=>⟨xs[lo+i],Array.getElem?_eq_getElem (by omega),by rw[zep hi];exact Array.getElem?_eq_getElem (by omega)⟩
 constructor
 ·intro u;rw[List.pairwise_iff_getElem];intro i j h1 h2 hij;rw[len]at h1 h2;obtain⟨p,e1,e2⟩:=el i h1;obtain⟨r,e3,e4⟩:=el j h2;have:=u (lo+i) (lo+j) (by omega) (by omega) (by omega);rw[w5 e1,w5 e3]at this;obtain⟨_,q1⟩:=List.getElem?_eq_some_iff.mp e2;obtain⟨_,q2⟩:=List.getElem?_eq_some_iff.mp e4;rw[q1,q2];exact this
 ·intro u i j h1 h2 h3;obtain⟨p,e1,e2⟩:=el (i-lo) (by omega);obtain⟨r,e3,e4⟩:=el (j-lo) (by omega);rw[show lo+(i-lo)=i by omega]at e1;rw[show lo+(j-lo)=j by omega]at e3;rw[w5 e1,w5 e3]
  by_cases c:i=j
  ·subst c;rw[e1]at e3;cases e3;exact KeyOrd.kle_refl _
  ·obtain⟨l1,q1⟩:=List.getElem?_eq_some_iff.mp e2;obtain⟨l2,q2⟩:=List.getElem?_eq_some_iff.mp e4;have:=List.pairwise_iff_getElem.mp u (i-lo) (j-lo) l1 l2 (by omega);rw[q1,q2]at this;exact this
theorem zeq(xs:Array Keyed)(lo hi:Nat):(xs.extract lo hi).toList=(xs.toList.drop lo).take (hi-lo):=by
 rw[Array.toList_extract,List.extract_eq_take_drop]
section
variable {prog:Program}{w:World}{A:Around}{E:Value->Shared->Prop}{s:Shared}{κ:KeyKind}{kd:SortKind}{a₀:Array Keyed}
theorem AllK.of{xs:Array Keyed}(h:∀p∈xs.toList,∃a,κ.keyOf p.1=some a):AllK κ xs:=λp hp=>by
 obtain⟨a,e⟩:=h p hp;unfold kk;rw[e];rfl
theorem SG.allK{st:SortSt}(g:SG kd a₀ st)(h0:KeysOf κ a₀):AllK κ (arrOf st):=AllK.of λp hp=>h0 p ((Array.perm_iff_toList_perm.mp g.perm).mem_iff.mp hp)
theorem zg9{l:List Keyed}{sa na nb k nb':Nat}{M:List Keyed}(hs:sa+na+nb<=l.length)(u1:((l.drop sa).take na).Pairwise (le κ))(u2:((l.drop (sa+na)).take nb).Pairwise (le κ))(hk:k<na)(hb:nb'<=nb)(hb1:1<=nb')
  (h1:∀x∈(l.drop sa).take k,∀y∈(l.drop (sa+na)).take nb,le κ x y) (h2:∀x∈(l.drop sa).take na,∀y∈((l.drop (sa+na)).take nb).drop nb',le κ x y)
  (pm:M.Perm (((l.drop (sa+k)).take (na-k))++((l.drop (sa+na)).take nb'))) (sm:M.Pairwise (le κ)) :
  (l.take (sa+k)++M++l.drop (sa+k+M.length)).Perm l/\(((l.take (sa+k)++M++l.drop (sa+k+M.length)).drop sa).take (na+nb)).Pairwise (le κ)/\M.length=na-k+nb':=by
 have lenM:M.length=na-k+nb':=by rw[pm.length_eq];simp;omega
 have eA:(l.drop sa).take na=(l.drop sa).take k++(l.drop (sa+k)).take (na-k):=by
  rw[show(l.drop (sa+k))=(l.drop sa).drop k by rw[List.drop_drop],<-List.take_add,show k+(na-k)=na by omega]
 have eB:(l.drop (sa+na)).take nb=(l.drop (sa+na)).take nb'++((l.drop (sa+na)).take nb).drop nb':=by
  have:=(List.take_append_drop nb' ((l.drop (sa+na)).take nb)).symm
  rwa [List.take_take,Nat.min_eq_left hb]at this
 have eY:((l.drop (sa+na)).take nb).drop nb'=(l.drop (sa+na+nb')).take (nb-nb'):=by
  rw[List.drop_take,List.drop_drop]
 have hm:sa+k+M.length=sa+na+nb':=by omega
 refine⟨?_,?_,lenM⟩
 ·have e:l=l.take (sa+k)++((l.drop (sa+k)).take (na-k)++(l.drop (sa+na)).take nb')++l.drop (sa+k+M.length):=by
   have e1:=(List.take_append_drop (sa+k) l).symm;have e2:=(List.take_append_drop (na-k) (l.drop (sa+k))).symm;rw[List.drop_drop,show sa+k+(na-k)=sa+na by omega]at e2;have e3:=(List.take_append_drop nb' (l.drop (sa+na))).symm;rw[List.drop_drop]at e3;rw[hm]
   conv=>lhs;rw[e1,e2,e3]
   simp
  conv=>rhs;rw[e]
  exact(List.Perm.append_left _ pm).append_right _
 ·have dp:(l.take (sa+k)++M++l.drop (sa+k+M.length)).drop sa=(l.drop sa).take k++M++l.drop (sa+k+M.length):=by
   rw[List.append_assoc,List.drop_append_of_le_length (by simp;omega),List.drop_take,show sa+k-sa=k by omega,List.append_assoc]
  rw[dp,List.take_append,List.take_of_length_le (by simp;omega)];have l3:(((l.drop sa).take k)++M).length=na+nb':=by simp;omega
  rw[l3,hm,show na+nb-(na+nb')=nb-nb' by omega,<-eY];rw[eA]at u1 h2;rw[eB]at u2 h1;have u1':=List.pairwise_append.mp u1;have u2':=List.pairwise_append.mp u2;have inM:∀x∈M,x∈(l.drop (sa+k)).take (na-k)\/x∈(l.drop (sa+na)).take nb':=λx hx=>List.mem_append.mp (pm.mem_iff.mp hx);refine List.pairwise_append.mpr ⟨List.pairwise_append.mpr ⟨u1'.1,sm,λx hx y hy=>?_⟩,u2'.2.1,λx hx y hy=>?_⟩
  ·rcases inM y hy with h|h
   ·exact u1'.2.2 x hx y h
   ·exact h1 x hx y (List.mem_append_left _ h)
  ·rcases List.mem_append.mp hx with hx|hx
   ·exact h2 x (List.mem_append_left _ hx) y hy
   ·rcases inM x hx with h|h
    ·exact h2 x (List.mem_append_right _ h) y hy
    ·exact u2'.2.2 x h y hy
end
end SQ
namespace SQ
open PySem PyProof.Rows
set_option autoImplicit false
section
variable {prog:Program}{w:World}{A:Around}{E:Value->Shared->Prop}{s:Shared}{κ:KeyKind}{kd:SortKind}{a₀:Array Keyed}
theorem zs2{st z:SortSt}{Q:PUnit->SortSt->Prop}(h:Q ⟨⟩ z):wpS (model prog w) A E s (set z:StateT SortSt Sem PUnit) Q st:=by
 unfold wpS;rw[StateT.run_set];exact wpAny_pure ⟨rfl,h⟩
theorem jd{xs:Array Keyed}{lo n:Nat}{x:Keyed}(h:x∈(xs.toList.drop lo).take n):∃i,i<n/\xs[lo+i]?=some x:=by
 obtain⟨i,hi⟩:=List.mem_iff_getElem?.mp h;have:i<n:=by
  have:=(List.getElem?_eq_some_iff.mp hi).1;rw[List.length_take]at this;omega
 exact⟨i,this,by rw[<-zep this];exact hi⟩
theorem Up.join{xs:Array Keyed}{lo m n:Nat}(h1:Up κ xs lo m)(h2:Up κ xs (lo+m) n)(hm:1<=m)(c:κ.kle (KK κ xs (lo+m-1)) (KK κ xs (lo+m))):Up κ xs lo (m+n):=λi j a b d=>by
 by_cases ej:j<lo+m
 ·exact h1 i j a b ej
 ·by_cases ei:lo+m<=i
  ·exact h2 i j ei b (by omega)
  ·exact KeyOrd.kle_trans (h1 i (lo+m-1) a (by omega) (by omega)) (KeyOrd.kle_trans c (h2 (lo+m) j (Nat.le_refl _) (by omega) (by omega)))
theorem zj1{st:SortSt}{i sa na nb pw pw2:Nat}{Q:Bool->SortSt->Prop}(L:qb prog w A s κ kd)(h0:KeysOf κ a₀)(g:SG kd a₀ st)(e1:(pendingOf st)[i]?=some (sa,na,pw))(e2:(pendingOf st)[i+1]?=some (sa+na,nb,pw2))(hs:sa+na+nb<=a₀.size)(na1:1<=na)(nb1:1<=nb)
  (u1:Up κ (arrOf st) sa na) (u2:Up κ (arrOf st) (sa+na) nb)
  (q:∀st',SG kd a₀ st'->pendingOf st'=((pendingOf st).setIfInBounds i (sa,na+nb,pw)).eraseIdxIfInBounds (i+1)->(∀k,(k<sa\/sa+na+nb<=k)->(arrOf st')[k]?=(arrOf st)[k]?)->Up κ (arrOf st') sa (na+nb)->Q true st'):wpS (model prog w) A E s (mergeAt' i) Q st:=by
 have sz:=g.sz;have ak:=g.allK h0;refine wpS_bind (wpS_get ?_);show wpS _ _ _ _ (match ((pendingOf st)[i]?,(pendingOf st)[i+1]?) with |(some (sa,na,power),some (sb,nb,_))=>_|_=>_) _ _;rw[e1,e2];dsimp only;obtain⟨b0,eb0,mb0⟩:=zc2 (xs:=arrOf st) (i:=sa+na) (by omega);obtain⟨pa,epa,mpa⟩:=zc2 (xs:=arrOf st) (i:=sa+na-1) (by omega);refine wpS_bind (zs2 ?_);show wpS _ _ _ _ _ _ (SortSt.mk' (kindOf st) (arrOf st) (((pendingOf st).setIfInBounds i (sa,na+nb,pw)).eraseIdxIfInBounds (i+1)) (gallopOf st) (failedOf st));obtain⟨z,ez⟩:∃z,z=SortSt.mk' (kindOf st) (arrOf st) (((pendingOf st).setIfInBounds i (sa,na+nb,pw)).eraseIdxIfInBounds (i+1)) (gallopOf st) (failedOf st):=⟨_,rfl⟩
 rw[<-ez];have gz:SG kd a₀ z:=by rw[ez];exact⟨g.perm,g.kind,g.fail⟩
 have az:arrOf z=arrOf st:=by rw[ez]
 have pz:pendingOf z=((pendingOf st).setIfInBounds i (sa,na+nb,pw)).eraseIdxIfInBounds (i+1):=by rw[ez]
 have s1:Srt κ ((arrOf st).extract sa (sa+na)):=by
  show List.Pairwise _ _;rw[zeq,show sa+na-sa=na by omega];exact(zdk (by omega)).mp u1
 have mo1:∀k,∀i j,i<=j->j<na->byd κ false k (arrOf st) sa j=true->byd κ false k (arrOf st) sa i=true:=λk i j a b c=>by
  unfold byd at c ⊢;simp only[Bool.false_eq_true,if_false,Bool.not_eq_true']at c ⊢;exact KeyOrd.kle_trans (u1 (sa+i) (sa+j) (by omega) (by omega) (by omega)) c
 have mo2:∀k,∀i j,i<=j->j<nb->byd κ true k (arrOf st) (sa+na) j=true->byd κ true k (arrOf st) (sa+na) i=true:=λk i j a b c=>by
  unfold byd at c ⊢;simp only[if_true]at c ⊢;exact KeyOrd.klt_of_kle_of_klt (u2 (sa+na+i) (sa+na+j) (by omega) (by omega) (by omega)) c
 refine wpS_bind (yy eb0 (wpS_bind (vt L gz.kind (ak.ky sa na (by omega)) (ak _ mb0) (by omega) (mo1 _) λk hk1 hk2 hk3=>?_)));dsimp only;refine zv (λc=>?_) (λc=>?_)
 ·have kn0:na-k=0:=by simpa using c
  have kn:k=na:=by omega
  subst kn;refine wpS_pure (q z gz pz (λj _=>by rw[az]) ?_);rw[az];refine Up.join u1 u2 na1 ?_;have:=hk2 (k-1) (by omega);rw[zam (by rw[show sa+(k-1)=sa+k-1 by omega];exact epa)]at this;rw[w5 epa,w5 eb0];simpa[KeyOrd.kle]using this
 have kn0:¬ (na-k=0):=by simpa using c
 have kn:k<na:=by omega
 rw[show sa+k+(na-k)-1=sa+na-1 by omega];refine wpS_bind (yy epa (wpS_bind (vt L gz.kind (ak.ky (sa+na) nb (by omega)) (ak _ mpa) (by omega) (mo2 _) λnb' g1 g3 g4=>?_)));dsimp only;refine zv (λc=>?_) (λc=>?_)
 ·have kn:nb'=0:=by simpa using c
  subst kn;refine wpS_pure (q z gz pz (λj _=>by rw[az]) ?_);rw[az];refine Up.join u1 u2 na1 ?_;have:=g4 0 (Nat.le_refl _) (by omega);rw[zan (by rw[Nat.add_zero];exact eb0)]at this;rw[w5 epa,w5 eb0];exact this
 have nb00:¬ (nb'=0):=by simpa using c
 have nb0:1<=nb':=by omega
 have tX:((arrOf st).extract (sa+k) (sa+na)).toList=((arrOf st).toList.drop (sa+k)).take (na-k):=by rw[zeq,show sa+na-(sa+k)=na-k by omega]
 have tY:((arrOf st).extract (sa+na) (sa+na+nb')).toList=((arrOf st).toList.drop (sa+na)).take nb':=by rw[zeq,show sa+na+nb' - (sa+na)=nb' by omega]
 have kX:AllK κ ((arrOf st).extract (sa+k) (sa+na)):=λp hp=>ak p (by rw[tX]at hp;exact List.mem_of_mem_drop (List.mem_of_mem_take hp));have kY:AllK κ ((arrOf st).extract (sa+na) (sa+na+nb')):=λp hp=>ak p (by rw[tY]at hp;exact List.mem_of_mem_drop (List.mem_of_mem_take hp));have sX:Srt κ ((arrOf st).extract (sa+k) (sa+na)):=by
  show List.Pairwise _ _;rw[tX];exact(zdk (by omega)).mp λi j a b d=>u1 i j (by omega) b (by omega)
 have sY:Srt κ ((arrOf st).extract (sa+na) (sa+na+nb')):=by
  show List.Pairwise _ _;rw[tY];exact(zdk (by omega)).mp λi j a b d=>u2 i j a b (by omega)
 have zX:((arrOf st).extract (sa+k) (sa+na)).size=na-k:=by rw[Array.size_extract];omega
 have zY:((arrOf st).extract (sa+na) (sa+na+nb')).size=nb':=by rw[Array.size_extract];omega
 have oX:1<=((arrOf st).extract (sa+k) (sa+na)).size:=by rw[zX];omega
 have oY:1<=((arrOf st).extract (sa+na) (sa+na+nb')).size:=by rw[zY];omega
 have hl:∀x∈((arrOf st).extract (sa+na) (sa+na+nb')).toList,∀y,((arrOf st).extract (sa+k) (sa+na))[((arrOf st).extract (sa+k) (sa+na)).size-1]?=some y->le κ x y:=λx hx y hy=>by
  rw[tY]at hx;obtain⟨i,hi,ei⟩:=jd hx;have ey:y=pa:=by
   rw[<-Array.getElem?_toList,tX,zX,zep (by omega),show sa+k+(na-k-1)=sa+na-1 by omega,epa]at hy;exact(Option.some.inj hy).symm
  subst ey;have:=g3 i hi;rw[zan ei]at this;exact KeyOrd.kle_of_klt this
 have hf:∀p,((arrOf st).extract (sa+na) (sa+na+nb'))[0]?=some p->∀y∈((arrOf st).extract (sa+k) (sa+na)).toList,le κ p y:=λp hp y hy=>by
  have ep:p=b0:=by
   rw[<-Array.getElem?_toList,tY,zep (by omega),Nat.add_zero,eb0]at hp;exact(Option.some.inj hp).symm
  subst ep;rw[tX]at hy;obtain⟨i,hi,ei⟩:=jd hy;have:=hk3 (k+i) (by omega) (by omega);rw[zam (by rw[show sa+(k+i)=sa+k+i by omega];exact ei)]at this;exact KeyOrd.kle_of_klt (by simpa[KeyOrd.klt]using this)
 have fin:∀(r:Array Keyed) (z2:SortSt),Gm z z2->Mg κ ((arrOf st).extract (sa+k) (sa+na)) ((arrOf st).extract (sa+na) (sa+na+nb')) r ->
   Q (failedOf (SortSt.mk' (kindOf z2) (List.foldl (λa x=>a.setIfInBounds (sa+k+x.snd) x.fst) (arrOf z2) r.toList.zipIdx) (pendingOf z2) (gallopOf z2) (failedOf z2))).isNone (SortSt.mk' (kindOf z2) (List.foldl (λa x=>a.setIfInBounds (sa+k+x.snd) x.fst) (arrOf z2) r.toList.zipIdx) (pendingOf z2) (gallopOf z2) (failedOf z2)):=by
  intro r z2 gm hr;obtain⟨pm,sm⟩:=hr;rw[tX,tY]at pm;have ml:=zg9 (κ:=κ) (l:=(arrOf st).toList) (sa:=sa) (na:=na) (nb:=nb) (k:=k) (nb':=nb') (M:=r.toList) (by simpa using (by omega:sa+na+nb<=(arrOf st).size)) ((zdk (by omega)).mp u1) ((zdk (by omega)).mp u2) kn g1 nb0
   (λx hx y hy=>by
    obtain⟨i,hi,ei⟩:=jd hx;obtain⟨j,hj,ej⟩:=jd hy;have:=hk2 i hi;rw[zam ei]at this;refine le_trans (show le κ x b0 from by simpa[le,KeyOrd.kle]using this) ?_;have:=u2 (sa+na) (sa+na+j) (Nat.le_refl _) (by omega) (by omega);rw[w5 eb0,w5 ej]at this;exact this)
   (λx hx y hy=>by
    obtain⟨i,hi,ei⟩:=jd hx;rw[List.drop_take,List.drop_drop]at hy;obtain⟨j,hj,ej⟩:=jd hy;have h5:=u1 (sa+i) (sa+na-1) (by omega) (by omega) (by omega);rw[w5 ei,w5 epa]at h5;have:=g4 (nb'+j) (by omega) (by omega);rw[zan (by rw[show sa+na+(nb'+j)=sa+na+nb'+j by omega];exact ej)]at this;exact le_trans (show le κ x pa from h5) this) pm sm
  obtain⟨m1,m2,m3⟩:=ml;have a2:arrOf z2=arrOf st:=gm.a.trans az;have wl:=zin (sa+k) r.toList 0 (arrOf st) (by rw[m3];omega);rw[Nat.add_zero]at wl;rw[a2];generalize (List.foldl (λa x=>a.setIfInBounds (sa+k+x.snd) x.fst) (arrOf st) r.toList.zipIdx)=V at wl ⊢;have szw:V.size=a₀.size:=by rw[<-Array.length_toList,wl,m1.length_eq,Array.length_toList,sz]
  have nofail:failedOf z2=none:=gm.f.trans gz.fail;show Q (failedOf z2).isNone _;rw[nofail];refine q _ ⟨?_,gm.k.trans gz.kind,rfl⟩ (gm.p.trans pz) (λj hj=>?_) ?_
  ·show Array.Perm V _;rw[Array.perm_iff_toList_perm,wl];exact m1.trans (Array.perm_iff_toList_perm.mp g.perm)
  ·show V[j]?=_;rw[<-Array.getElem?_toList,wl,<-Array.getElem?_toList];rcases hj with hj|hj
   ·rw[List.append_assoc,List.getElem?_append_left (by simp;omega),List.getElem?_take_of_lt (by omega)]
   ·have l1:(List.take (sa+k) (arrOf st).toList++r.toList).length=sa+k+r.toList.length:=by simp;omega
    rw[List.getElem?_append_right (by rw[l1,m3];omega),l1,List.getElem?_drop,show sa+k+r.toList.length+(j-(sa+k+r.toList.length))=j by rw[m3];omega]
  ·refine(zdk (by show sa+(na+nb)<=V.size;omega)).mpr ?_;show List.Pairwise _ (List.take _ (List.drop _ V.toList));rw[wl];exact m2
 refine zv (λ_=>?_) (λ_=>?_)
 ·exact wpS_bind (zjz L gz.kind kX kY sX sY oX oY hl hf λr z2 gm hr=>wpS_bind (wpS_modify (wpS_bind (wpS_get (wpS_pure (fin r z2 gm hr))))))
 ·exact wpS_bind (zj0 L gz.kind kX kY sX sY oX oY hl hf λr z2 gm hr=>wpS_bind (wpS_modify (wpS_bind (wpS_get (wpS_pure (fin r z2 gm hr))))))
end
end SQ
namespace SQ
open PySem PyProof.Rows
set_option autoImplicit false
def Cov(κ:KeyKind)(xs:Array Keyed):Nat->List (Nat×Nat×Nat)->Nat->Prop
 |at_,[],hi=>at_=hi
 |at_,(b,n,_)::r,hi=>b=at_/\1<=n/\Up κ xs at_ n/\Cov κ xs (at_+n) r hi
section
variable {κ:KeyKind}
theorem Cov.le{xs:Array Keyed}:∀{l:List (Nat×Nat×Nat)}{at_ hi:Nat},Cov κ xs at_ l hi->at_+l.length<=hi
 |[],at_,hi,h=>by have:at_=hi:=h;simp;omega
 |(b,n,p)::r,at_,hi,h=>by
  obtain⟨_,h1,_,h2⟩:=h;have:=h2.le;simp only[List.length_cons];omega
theorem Up.congr{xs ys:Array Keyed}{lo n:Nat}(h:∀k,lo<=k->k<lo+n->ys[k]?=xs[k]?)(u:Up κ xs lo n):Up κ ys lo n:=λi j a b c=>by
 rw[KK_congr (h i a (by omega)),KK_congr (h j (by omega) c)];exact u i j a b c
theorem Cov.congr{xs ys:Array Keyed}:∀{l:List (Nat×Nat×Nat)}{at_ hi:Nat},(∀k,at_<=k->k<hi->ys[k]?=xs[k]?)->Cov κ xs at_ l hi->Cov κ ys at_ l hi
 |[],_,_,_,h=>h
 |(b,n,p)::r,at_,hi,e,h=>by
  obtain⟨h0,h1,h2,h3⟩:=h;have:=h3.le;exact⟨h0,h1,Up.congr (λk a b=>e k a (by omega)) h2,h3.congr λk a b=>e k (by omega) b⟩
theorem Cov.push{xs:Array Keyed}{n pw:Nat}:∀{l:List (Nat×Nat×Nat)}{at_ hi:Nat},Cov κ xs at_ l hi->1<=n->Up κ xs hi n->Cov κ xs at_ (l ++ [(hi,n,pw)]) (hi+n)
 |[],at_,hi,h,hn,u=>by
  have e:at_=hi:=h;subst e;exact⟨rfl,hn,u,rfl⟩
 |(b,m,p)::r,at_,hi,h,hn,u=>⟨h.1,h.2.1,h.2.2.1,h.2.2.2.push hn u⟩
theorem Cov.modify{xs:Array Keyed}{f:Nat×Nat×Nat->Nat×Nat×Nat}(hf:∀t,(f t).1=t.1/\(f t).2.1=t.2.1):∀{l:List (Nat×Nat×Nat)}{at_ hi:Nat} (i:Nat),Cov κ xs at_ l hi->Cov κ xs at_ (l.modify i f) hi
 |[],_,_,i,h=>by simpa using h
 |(b,n,p)::r,at_,hi,0,h=>by
  rw[List.modify_zero_cons];obtain⟨h1,h2⟩:=hf (b,n,p);generalize f (b,n,p)=t at h1 h2 ⊢;obtain⟨x,y,z⟩:=t;simp only at h1 h2;subst h1 h2;exact h
 |(b,n,p)::r,at_,hi,i+1,h=>by
  rw[List.modify_succ_cons];exact⟨h.1,h.2.1,h.2.2.1,h.2.2.2.modify hf i⟩
theorem Cov.pair{xs:Array Keyed}:∀{l:List (Nat×Nat×Nat)}{at_ hi:Nat} (i:Nat),Cov κ xs at_ l hi->i+1<l.length->∃sa na nb pw pw2,l[i]?=some (sa,na,pw)/\l[i+1]?=some (sa+na,nb,pw2)/\at_<=sa/\sa+na+nb<=hi/\1<=na/\1<=nb/\Up κ xs sa na/\Up κ xs (sa+na) nb /\
   ∀ys:Array Keyed,(∀k,(k<sa\/sa+na+nb<=k)->ys[k]?=xs[k]?)->Up κ ys sa (na+nb)->Cov κ ys at_ ((l.set i (sa,na+nb,pw)).eraseIdx (i+1)) hi
 |[],_,_,i,_,h=>by simp at h
 |[_],_,_,i,_,h=>by simp at h
 |(b,n,p)::(b2,n2,p2)::r,at_,hi,0,h,_=>by
  obtain⟨rfl,h1,h2,rfl,h3,h4,h5⟩:=h;have:=h5.le;refine⟨b,n,n2,p,p2,rfl,rfl,Nat.le_refl _,by omega,h1,h3,h2,h4,λys e u=>?_⟩;refine⟨rfl,by omega,u,?_⟩;rw[show b+(n+n2)=b+n+n2 by omega];exact h5.congr λk a _=>e k (.inr a)
 |(b,n,p)::t::r,at_,hi,i+1,h,hl=>by
  obtain⟨rfl,h1,h2,h3⟩:=h;obtain⟨sa,na,nb,pw,pw2,e1,e2,q0,q1,q2,q3,q4,q5,q6⟩:=h3.pair i (by simpa using hl);refine⟨sa,na,nb,pw,pw2,by simpa using e1,by simpa using e2,by omega,q1,q2,q3,q4,q5,λys e u=>?_⟩;rw[List.set_cons_succ,List.eraseIdx_cons_succ];exact⟨rfl,h1,Up.congr (λk a b=>e k (.inl (by omega))) h2,q6 ys e u⟩
end
section
variable {prog:Program}{w:World}{A:Around}{E:Value->Shared->Prop}{s:Shared}{κ:KeyKind}{kd:SortKind}{a₀:Array Keyed}
theorem jz{st:SortSt}{i hi:Nat}{Q:Bool->SortSt->Prop}(L:qb prog w A s κ kd)(h0:KeysOf κ a₀)(g:SG kd a₀ st)(c:Cov κ (arrOf st) 0 (pendingOf st).toList hi)(hh:hi<=a₀.size)(hi1:i+1<(pendingOf st).size)
  (q:∀st',SG kd a₀ st'->Cov κ (arrOf st') 0 (pendingOf st').toList hi->(∀k,hi<=k->(arrOf st')[k]?=(arrOf st)[k]?)->(pendingOf st').size+1=(pendingOf st).size->Q true st'):wpS (model prog w) A E s (mergeAt' i) Q st:=by
 obtain⟨sa,na,nb,pw,pw2,e1,e2,q0,q1,q2,q3,q4,q5,q6⟩:=c.pair i (by simpa using hi1);refine zj1 L h0 g (by simpa using e1) (by simpa using e2) (by omega) q2 q3 q4 q5 λst' g' p' o' u'=>q st' g' ?_ (λk hk=>o' k (.inr (by omega))) ?_
 ·rw[p'];have:=q6 (arrOf st') o' u';simpa using this
 ·rw[p',<-Array.length_toList,Array.toList_eraseIdxIfInBounds,Array.toList_setIfInBounds,List.length_eraseIdx,List.length_set,Array.length_toList,if_pos hi1];omega
theorem zha{st:SortSt}{Q:Unit->SortSt->Prop}(L:qb prog w A s κ kd)(h0:KeysOf κ a₀)(g:SG kd a₀ st)(hp:pendingOf st = #[])(h2:2<=a₀.size)(q:∀st',SG kd a₀ st'->SortedToK κ (arrOf st') a₀.size->Q () st'):wpS (model prog w) A E s sortRuns' Q st:=by
 rw[sortRuns'_eq];refine wpS_bind (wpS_get ?_);dsimp only;simp only[g.sz];generalize minRun' a₀.size a₀.size 0=mr;refine wpS_bind (wpS_mono (wpS_forRange (I:=λx c z=>∃lo,c=(none,lo)/\SG kd a₀ z/\Cov κ (arrOf z) 0 (pendingOf z).toList lo/\lo<=a₀.size/\x<=lo)
  (Q:=λc z=>c=(none,a₀.size)/\SG kd a₀ z/\Cov κ (arrOf z) 0 (pendingOf z).toList a₀.size) (λx c z hx1 hx2 h=>?_) (λc z h=>?_) ⟨0,rfl,g,by rw[hp];rfl,by omega,by omega⟩) (λc z h=>?_))
 ·obtain⟨lo,rfl,gz,cv,l1,l2⟩:=h;dsimp only;refine zv (λc=>?_) (λc=>?_)
  ·have:lo=a₀.size:=by omega
   subst this;exact wpS_pure ⟨rfl,gz,cv⟩
  refine wpS_bind (zg8 L h0 gz (by omega) (by omega) λk z1 g1 mv k1 k2 u=>?_);have cv1:Cov κ (arrOf z1) 0 (pendingOf z1).toList lo:=by rw[mv.pend];exact cv.congr λj _ hj=>mv.out j (.inl hj)
  dsimp only;refine zv (λcm=>?_) (λcm=>?_)
  ·refine wpS_bind (wpS_lift (wpAny_rule ⟨rfl,?_⟩));refine wpS_bind (zl7 L h0 g1 (by omega) (by omega) u λz2 g2 mv2 u2=>?_);rw[if_neg (by decide)];have cv2:Cov κ (arrOf z2) 0 (pendingOf z2).toList lo:=by rw[mv2.pend];exact cv1.congr λj _ hj=>mv2.out j (.inl hj)
   refine wpS_bind (wpS_get ?_)
   cases hb:(pendingOf z2).back? with
   |none=>
    dsimp only;refine wpS_bind (wpS_modify (wpS_pure ⟨lo+(min (a₀.size-lo) mr),rfl,⟨g2.perm,g2.kind,g2.fail⟩,?_,by omega,by omega⟩));show Cov κ (arrOf z2) 0 ((pendingOf z2).push (lo,min (a₀.size-lo) mr,0)).toList (lo+(min (a₀.size-lo) mr));rw[Array.toList_push];exact cv2.push (by omega) u2
   |some t=>
    obtain⟨s1,n1,pp⟩:=t;dsimp only;refine wpS_bind (wpS_mono (wpS_forRange (I:=λy c z'=>c=(none,())/\SG kd a₀ z'/\Cov κ (arrOf z') 0 (pendingOf z').toList lo/\Up κ (arrOf z') lo (min (a₀.size-lo) mr))
     (Q:=λc z'=>c=(none,())/\SG kd a₀ z'/\Cov κ (arrOf z') 0 (pendingOf z').toList lo/\Up κ (arrOf z') lo (min (a₀.size-lo) mr)) (λy c z' hy1 hy2 h=>?_) (λc z' h=>h) ⟨rfl,g2,cv2,u2⟩) (λc z' h=>?_))
    ·obtain⟨rfl,g',c',u'⟩:=h;refine wpS_bind (wpS_get ?_)
     cases e:(if (pendingOf z').size > 1 then (pendingOf z')[(pendingOf z').size-2]? else none) with
     |none=>
      dsimp only;exact wpS_pure ⟨rfl,g',c',u'⟩
     |some t=>
      obtain⟨t1,t2,older⟩:=t;dsimp only;have big:(pendingOf z').size > 1:=by
       by_cases z:(pendingOf z').size > 1
       ·exact z
       ·rw[if_neg z]at e;cases e
      refine zv (λ_=>wpS_pure ⟨rfl,g',c',u'⟩) (λ_=>wpS_bind (jz L h0 g' c' (by omega) (by omega) λz3 g3 c3 o3 _=>?_));rw[if_neg (by decide)];exact wpS_pure ⟨rfl,g3,c3,Up.congr (λk a _=>o3 k a) u'⟩
    ·obtain⟨rfl,g',c',u'⟩:=h;dsimp only;refine wpS_bind (wpS_modify (wpS_bind (wpS_modify (wpS_pure ⟨lo+(min (a₀.size-lo) mr),rfl,⟨g'.perm,g'.kind,g'.fail⟩,?_,by omega,by omega⟩))));show Cov κ (arrOf z') 0 (((pendingOf z').modify ((pendingOf z').size-1) _).push (lo,min (a₀.size-lo) mr,0)).toList (lo+(min (a₀.size-lo) mr));rw[Array.toList_push,Array.toList_modify];refine Cov.push (Cov.modify ?_ _ c') (by omega) u';exact λt=>⟨rfl,rfl⟩
  ·refine wpS_bind (wpS_get ?_)
   cases hb:(pendingOf z1).back? with
   |none=>
    dsimp only;refine wpS_bind (wpS_modify (wpS_pure ⟨lo+(k),rfl,⟨g1.perm,g1.kind,g1.fail⟩,?_,by omega,by omega⟩));show Cov κ (arrOf z1) 0 ((pendingOf z1).push (lo,k,0)).toList (lo+(k));rw[Array.toList_push];exact cv1.push k1 u
   |some t=>
    obtain⟨s1,n1,pp⟩:=t;dsimp only;refine wpS_bind (wpS_mono (wpS_forRange (I:=λy c z'=>c=(none,())/\SG kd a₀ z'/\Cov κ (arrOf z') 0 (pendingOf z').toList lo/\Up κ (arrOf z') lo (k))
     (Q:=λc z'=>c=(none,())/\SG kd a₀ z'/\Cov κ (arrOf z') 0 (pendingOf z').toList lo/\Up κ (arrOf z') lo (k)) (λy c z' hy1 hy2 h=>?_) (λc z' h=>h) ⟨rfl,g1,cv1,u⟩) (λc z' h=>?_))
    ·obtain⟨rfl,g',c',u'⟩:=h;refine wpS_bind (wpS_get ?_)
     cases e:(if (pendingOf z').size > 1 then (pendingOf z')[(pendingOf z').size-2]? else none) with
     |none=>
      dsimp only;exact wpS_pure ⟨rfl,g',c',u'⟩
     |some t=>
      obtain⟨t1,t2,older⟩:=t;dsimp only;have big:(pendingOf z').size > 1:=by
       by_cases z:(pendingOf z').size > 1
       ·exact z
       ·rw[if_neg z]at e;cases e
      refine zv (λ_=>wpS_pure ⟨rfl,g',c',u'⟩) (λ_=>wpS_bind (jz L h0 g' c' (by omega) (by omega) λz3 g3 c3 o3 _=>?_));rw[if_neg (by decide)];exact wpS_pure ⟨rfl,g3,c3,Up.congr (λk a _=>o3 k a) u'⟩
    ·obtain⟨rfl,g',c',u'⟩:=h;dsimp only;refine wpS_bind (wpS_modify (wpS_bind (wpS_modify (wpS_pure ⟨lo+(k),rfl,⟨g'.perm,g'.kind,g'.fail⟩,?_,by omega,by omega⟩))));show Cov κ (arrOf z') 0 (((pendingOf z').modify ((pendingOf z').size-1) _).push (lo,k,0)).toList (lo+(k));rw[Array.toList_push,Array.toList_modify];refine Cov.push (Cov.modify ?_ _ c') k1 u';exact λt=>⟨rfl,rfl⟩
 ·obtain⟨lo,rfl,gz,cv,l1,l2⟩:=h;have:lo=a₀.size:=by omega
  subst this;exact⟨rfl,gz,cv⟩
 ·obtain⟨rfl,gz,cv⟩:=h;dsimp only
  refine wpS_bind (wpS_mono (wpS_forRange (I:=λx c z=>c=(none,())/\SG kd a₀ z/\Cov κ (arrOf z) 0 (pendingOf z).toList a₀.size/\(pendingOf z).size+x<=a₀.size+1)
   (Q:=λc z=>c=(none,())/\SG kd a₀ z/\Cov κ (arrOf z) 0 (pendingOf z).toList a₀.size/\(pendingOf z).size<=1) (λx c z hx1 hx2 h=>?_) (λc z h=>?_) ⟨rfl,gz,cv,by have:=cv.le;simp only[Array.length_toList]at this;omega⟩) (λc z h=>?_))
  ·obtain⟨rfl,gz,cv,hz⟩:=h;refine wpS_bind (wpS_get ?_);refine zv (λc=>wpS_pure ⟨rfl,gz,cv,c⟩) (λc=>?_);refine wpS_bind (jz L h0 gz cv (Nat.le_refl _) ?_ λz2 g2 c2 _ p2=>?_)
   ·repeat' split
    all_goals omega
   ·rw[if_neg (by decide)];exact wpS_pure ⟨rfl,g2,c2,by omega⟩
  ·obtain⟨rfl,gz,cv,hz⟩:=h;exact⟨rfl,gz,cv,by omega⟩
  ·obtain⟨rfl,gz,cv,hz⟩:=h;refine wpS_pure (q z gz λi j a b=>?_)
   have:∀l:List (Nat×Nat×Nat),l.length<=1->Cov κ (arrOf z) 0 l a₀.size->Up κ (arrOf z) 0 a₀.size:=by
    intro l hl c
    match l,hl,c with
    |[],_,c=>have:0=a₀.size:=c;omega
    |[(b,n,p)],_,c=>
     obtain⟨_,_,u,e⟩:=c;have e':0+n=a₀.size:=e;rw[Nat.zero_add]at e';rw[<-e'];exact u
   exact this _ (by simpa using hz) cv i j (Nat.zero_le _) a (by omega)
end
end SQ
namespace SQ
open PySem PyProof.Rows
set_option autoImplicit false
section
variable {prog:Program}{w:World}{A:Around}{E:Value->Shared->Prop}{s:Shared}
theorem zcd{κ:KeyKind}{kd:SortKind}{a:Addr}{vs:List Value}{n:Nat}{P:Fin->Shared->Prop}(ho:s.heap.get? a=some (seqObj "list" vs.toArray n))(hz:vs.length<=sizeLine)
  (L:∀h':Heap,(∀b o,b≠a->s.heap.get? b=some o->h'.get? b=some o)->qb prog w A { s with heap:=h' } κ kd) (h0:KeysOf κ (pairsOf vs))
  (hkk:2<=vs.length->∀(h':Heap) (Q:SortKind->Shared->Prop),(∀b o,b≠a->s.heap.get? b=some o->h'.get? b=some o)->Q kd { s with heap:=h' }->wpAny (model prog w) A (keyKind' vs.toArray) Q E { s with heap:=h' })
  (h:∀out:Array Keyed,out.Perm (pairsOf vs)->SortedToK κ out (pairsOf vs).size->P (.done (.ret .none)) { s with heap:=sortedHeap s.heap a vs (out.map (·.2)) }) :
  wpAny (model prog w) A (Builtin.«list.sort» ⟨[.ref a],[]⟩) P E s:=by
 rw[list_sort_plain];have la:a<s.heap.objs.size:=Heap.lt_size ho;refine wpAny_bind (listItems_at ho rfl ?_);refine wpAny_bind (listUpdate_at ho rfl ?_ (by simpa using hz) (Nat.zero_le _));obtain⟨e1,g1⟩:∃e1,(s.heap.update a (Obj.mapSeq λ_=>#[])).get? a=some (seqObj "list" #[] e1):=⟨_,get?_update_seq ho (λ_=>#[])⟩
 refine wpAny_bind (seqEpoch_at g1 rfl ?_);refine wpAny_bind (wpAny_newTuple ?_ (by simpa using hz));refine wpAny_bind (wpAny_newList ?_ (Nat.zero_le _));refine wpAny_holding ?_;have g6:(((s.heap.update a (Obj.mapSeq λ_=>#[])).push (seqObj "tuple" vs.toArray 0)).push (seqObj "list" #[] 0)).get? a=some (seqObj "list" #[] e1):=Heap.get?_push_of_some _ (Heap.get?_push_of_some _ g1);have keep:∀b o,b≠a->s.heap.get? b=some o->(((s.heap.update a (Obj.mapSeq λ_=>#[])).push (seqObj "tuple" vs.toArray 0)).push (seqObj "list" #[] 0)).get? b=some o:=λb o nb e=>Heap.get?_push_of_some _ (Heap.get?_push_of_some _ (by rw[Heap.get?_update_ne _ _ _ _ nb];exact e));show wpAny (model prog w) A _ P E { s with heap:=((s.heap.update a (Obj.mapSeq λ_=>#[])).push (seqObj "tuple" vs.toArray 0)).push (seqObj "list" #[] 0) };dsimp only;have sz:vs.toArray.size=vs.length:=by simp
 by_cases c:vs.toArray.size<2
 ·rw[if_pos c,if_pos c];refine wpAny_bind (wpAny_pure ?_);rw[StateT.run_pure];refine wpAny_bind (wpAny_pure ?_);dsimp only;refine wpAny_bind (seqEpoch_at g6 rfl ?_);refine wpAny_bind (listUpdate_at g6 rfl ?_ (Nat.zero_le _) (by show(Array.map _ (pairsOf vs)).size<=_;rw[Array.size_map,pairsOf_size,sizeLine_eq];omega));simp only[bne_self_eq_false,Bool.false_eq_true,if_false];refine wpAny_pure (h (vs.toArray.zip vs.toArray) (Array.Perm.refl _) λi j hij hj=>?_);have:i=j:=by rw[pairsOf_size]at hj;omega
  subst this;exact KeyOrd.kle_refl _
 ·rw[if_neg c,if_neg c];refine wpAny_bind (hkk (by omega) _ _ keep ?_)
  refine wpAny_bind (wpAny_mono (zha (κ:=κ) (kd:=kd) (a₀:=pairsOf vs) (st:=SortSt.mk' kd (vs.toArray.zip vs.toArray) #[] 7 none)
   (Q:=λ_ st'=>(arrOf st').Perm (pairsOf vs)/\failedOf st'=none/\SortedToK κ (arrOf st') (pairsOf vs).size) (L _ keep)
   h0 ⟨Array.Perm.refl _,rfl,rfl⟩ rfl (by rw[pairsOf_size];omega) λst' g' s'=>⟨g'.perm,g'.fail,s'⟩) ?_ λ_ _ e=>e)
  rintro ⟨⟨⟩,st'⟩ s' ⟨rfl,hp,hf,hs⟩;dsimp only;refine wpAny_bind (seqEpoch_at g6 rfl ?_);refine wpAny_bind (listUpdate_at g6 rfl ?_ (Nat.zero_le _) (by
   show(Array.map _ (arrOf st')).size<=_;rw[Array.size_map,hp.size_eq,pairsOf_size];omega))
  rw[hf];simp only[bne_self_eq_false,Bool.false_eq_true,if_false];exact wpAny_pure (h (arrOf st') hp hs)
theorem zj2{Q:List Value->Shared->Prop}{l:Addr}{T:String}{o:Obj}{xs:Array Value}{n:Nat}(hT:T = "list" \/ T = "tuple")(ho:s.heap.get? l=some o)(hc:o.cls=.type T)(hd:o.data=.seq xs n)(hz:xs.size<=sizeLine)
  (q:Q xs.toList { s with heap:=(s.heap.push (seqObj "list" #[] 0)).update s.heap.objs.size (Obj.mapSeq (·++xs)) }):wpAny (model prog w) A (collect (.ref l)) Q E s:=by
 unfold collect;refine wpAny_bind (wpAny_runValue (codeAny_builtin PySem.F.entry_proto_collect ?_));rw[Around.under_plainId PySem.F.plain_proto_collect _];show wpAny _ A.in1 (newList [] >>= λz=>again (.builtin "list.__iadd__" ⟨[z,.ref l],[]⟩)) _ _ s;refine wpAny_bind (wpAny_newObj_type ?_);refine wpAny_pure ⟨plainId_quiet PySem.F.plain_list_iadd _,codeAny_builtin PySem.F.entry_list_iadd ?_⟩;rw[Around.under_plainId PySem.F.plain_list_iadd _];show wpAny _ A.in1 (Builtin.List.listExtendWith (.ref s.heap.objs.size) (.ref l) (.ref s.heap.objs.size)) _ _ _;have g1:(s.heap.push { cls:=.type "list",data:=.seq ([]:List Value).toArray }).get? s.heap.objs.size=some { cls:=.type "list",data:=.seq #[] 0 }:=Heap.get?_push_size _ rfl;have g2:=Heap.get?_update_self (Obj.mapSeq (·++xs)) g1 rfl;have fin:wpAny (model prog w) A (match Value.ref s.heap.objs.size with
   |Value.ref z=>do
    match (<-load z).data with
     |Data.seq ys _=>pure ys.toList
     |_=>unsupported "internal:collect"
   |_=>unsupported "internal:collect") Q E { s with heap:=(s.heap.push { cls:=.type "list",data:=.seq ([]:List Value).toArray }).update s.heap.objs.size (Obj.mapSeq (·++xs)) }:=by
  show wpAny _ A (load s.heap.objs.size >>= _) _ _ _;refine wpAny_bind (wpAny_load g2 (wpAny_pure ?_));show Q ((#[]:Array Value)++xs).toList _;rw[show((#[]:Array Value)++xs).toList=xs.toList by simp];exact q
 refine wpAny_mono (wpAny_extend_seq (hsz:=hz) (A:=A) (R:=λr s'=>r=.ok (.ret (.ref s.heap.objs.size))/\s' = { s with heap:=(s.heap.push { cls:=.type "list",data:=.seq ([]:List Value).toArray }).update s.heap.objs.size (Obj.mapSeq (·++xs)) })
  (s:={ s with heap:=s.heap.push { cls:=.type "list",data:=.seq ([]:List Value).toArray } }) _ l _ 0 hT g1 (Heap.get?_push_of_some _ ho) hc hd ⟨rfl,rfl⟩) (λf s' z=>?_) (λe s' z=>absurd z.1 (by simp))
 cases f with
 |done f=>
  obtain⟨e,rfl⟩:=z
  cases e;exact fin
 |again c'=>exact⟨z.1,codeAny_mono z.2 λr s2 y=>by obtain⟨rfl,rfl⟩:=y;exact fin⟩
theorem zod(A:Around):A.in1.in1.units<=A.units+8:=by show A.units+1+1<=_;omega
theorem zf0{κ:KeyKind}{kd:SortKind}{l:Addr}{T:String}{o:Obj}{vs:List Value}{n:Nat}{Q:Value->Shared->Prop}(hT:T = "list" \/ T = "tuple")(ho:s.heap.get? l=some o)(hc:o.cls=.type T)(hd:o.data=.seq vs.toArray n)(hz:vs.length<=sizeLine)
  (L:∀(A':Around) (h':Heap),A'.units<=A.units+8->(∀b o,s.heap.get? b=some o->h'.get? b=some o)->qb prog w A' { s with heap:=h' } κ kd) (h0:KeysOf κ (pairsOf vs))
  (hkk:2<=vs.length->∀(A':Around) (E':Value->Shared->Prop) (h':Heap) (Q:SortKind->Shared->Prop),(∀b o,s.heap.get? b=some o->h'.get? b=some o)->Q kd { s with heap:=h' }->wpAny (model prog w) A' (keyKind' vs.toArray) Q E' { s with heap:=h' })
  (h:∀(out:Array Keyed) (h':Heap) (r:Addr) (e:Nat),out.Perm (pairsOf vs)->SortedToK κ out (pairsOf vs).size->s.heap.objs.size<=r->h'.get? r=some (seqObj "list" (out.map (·.2)) e)->(∀b o,s.heap.get? b=some o->h'.get? b=some o)->Q (.ref r) { s with heap:=h' }) :
  wpAny (model prog w) A (call (.builtin "sorted") [.ref l]) Q E s:=by
 refine Calls.call_function_entry kind_sorted plain_sorted entry_sorted (args_sorted1 _) ?_;unfold Builtin.«sorted»;refine wpAny_bind (m:=checkCount "sorted" 1 1 _) (wpAny_pure ?_);refine wpAny_bind (zj2 hT ho hc hd (by simpa using hz) ?_);rw[List.toList_toArray];refine wpAny_bind (wpAny_newList ?_ hz);have es:((s.heap.push (seqObj "list" #[] 0)).update s.heap.objs.size (Obj.mapSeq (·++vs.toArray))).objs.size=s.heap.objs.size+1:=by rw[Heap.size_update,size_push']
 have gL:(((s.heap.push (seqObj "list" #[] 0)).update s.heap.objs.size (Obj.mapSeq (·++vs.toArray))).push (seqObj "list" vs.toArray 0)).get? (s.heap.objs.size+1)=some (seqObj "list" vs.toArray 0):=by rw[<-es];exact Heap.get?_push_size _ rfl
 have k2:∀b o,s.heap.get? b=some o->(((s.heap.push (seqObj "list" #[] 0)).update s.heap.objs.size (Obj.mapSeq (·++vs.toArray))).push (seqObj "list" vs.toArray 0)).get? b=some o:=λb o e=>
  Heap.get?_push_of_some _ (by rw[Heap.get?_update_ne _ _ _ _ (Nat.ne_of_lt (Heap.lt_size e))];exact Heap.get?_push_of_some _ e)
 have nb:∀b o,s.heap.get? b=some o->b≠s.heap.objs.size+1:=λb o e=>Nat.ne_of_lt (Nat.lt_succ_of_lt (Heap.lt_size e));show wpAny _ _ _ _ _ { s with heap:=((s.heap.push (seqObj "list" #[] 0)).update s.heap.objs.size (Obj.mapSeq (·++vs.toArray))).push (seqObj "list" vs.toArray 0) };rw[es];refine wpAny_bind (wpAny_holding (wpAny_call_entry slot_list_sort ⟨_,gL,rfl⟩ entry_list_sort (zcd (κ:=κ) (kd:=kd) gL hz (λh' k'=>L _ h' (zod A) λb o e=>k' b o (nb b o e) (k2 b o e)) h0 (λh2 h' Q k' q=>hkk h2 _ _ h' Q (λb o e=>k' b o (nb b o e) (k2 b o e)) q) λout p1 p2=>⟨_,rfl,?_⟩) (args_list_sort _)));refine wpAny_pure ⟨_,rfl,?_⟩;obtain⟨e,he⟩:=sortedAll_at s.heap vs (out.map (·.2));exact h out _ _ e p1 p2 (Nat.le_succ _) he λb o z=>sortedAll_old z
end
end SQ
namespace SQ
open PySem PyProof.Rows
set_option autoImplicit false
@[reducible] def intK:KeyKind where
 α:=Int
 blt a b:=decide (a<b)
 irrefl a:=by simp
 trans a b c h1 h2:=by simp only[decide_eq_true_eq]at *;omega
 negTrans a b c h:=by simp only[decide_eq_true_eq]at *;omega
 total a b h1 h2:=by simp only[decide_eq_false_iff_not]at *;omega
 keyOf v:=match v with|.int i _=>some i|_=>none
 dflt:=0
theorem zio{prog:Program}{w:World}{A:Around}{s:Shared}:qb prog w A s intK oneType':=λE x y a b Q ha hb q=>by
 cases x <;> simp only[intK,reduceCtorEq,Option.some.injEq]at ha
 cases y <;> simp only[intK,reduceCtorEq,Option.some.injEq]at hb
 cases ha;cases hb;rw[keyLt'_oneType];exact oneLt_int q
def RefIs(h:Heap)(v:Value)(is:List Int):Prop:=∃a its,v=.ref a/\IsTup h a its/\IntsAre its.toList is
theorem IntsAre.same{vs:List Value}{ns ms:List Int}(h:IntsAre vs ns)(h':IntsAre vs ms):ns=ms:=by rw[<-h.nums,<-h'.nums]
theorem RefIs.uniq{h:Heap}{v:Value}{is js:List Int}(x:RefIs h v is)(y:RefIs h v js):is=js:=by
 obtain⟨a,its,rfl,⟨o,e,_,n,d⟩,i1⟩:=x;obtain⟨a',its',e',⟨o',e2,_,n',d'⟩,i2⟩:=y
 cases e';rw[e]at e2
 cases e2;rw[d]at d'
 cases d';exact IntsAre.same i1 i2
theorem RefIs.keep{h h':Heap}{v:Value}{is:List Int}(k:∀b o,h.get? b=some o->h'.get? b=some o)(x:RefIs h v is):RefIs h' v is:=by
 obtain⟨a,its,e,t,i⟩:=x;exact⟨a,its,e,t.keeps k,i⟩
open Classical in
noncomputable def refKey (h:Heap) (v:Value):Option (List Int):=if x:∃is,RefIs h v is then some x.choose else none
theorem zbk{h:Heap}{v:Value}{is:List Int}(e:refKey h v=some is):RefIs h v is:=by
 unfold refKey at e
 split at e
 ·next x=>cases e;exact x.choose_spec
 ·cases e
theorem zdl{h:Heap}{v:Value}{is:List Int}(x:RefIs h v is):refKey h v=some is:=by
 unfold refKey;rw[dif_pos ⟨is,x⟩];rw[(Exists.choose_spec (p:=λis=>RefIs h v is) ⟨is,x⟩).uniq x]
@[reducible] noncomputable def zhb (h:Heap):KeyKind where
 α:=List Int
 blt a b:=decide (a<b)
 irrefl a:=by simpa using List.lt_irrefl a
 trans a b c h1 h2:=by simp only[decide_eq_true_eq]at *;exact List.lt_trans h1 h2
 negTrans a b c h:=by
  simp only[decide_eq_true_eq]at *
  by_cases c:a<b
  ·exact .inl c
  ·exact .inr (List.lt_of_le_of_lt (List.not_lt.mp c) h)
 total a b h1 h2:=by simp only[decide_eq_false_iff_not]at *;exact List.le_antisymm (List.not_lt.mp h2) (List.not_lt.mp h1)
 keyOf v:=refKey h v
 dflt:=[]
section
variable {prog:Program}{w:World}{A:Around}{E:Value->Shared->Prop}{s:Shared}
theorem zhc{a b:Int}{t u:Tok}{f:Bool}{Q:Bool->Shared->Prop}(h:Q (decide (a<b)) s):wpAny (model prog w) A (oneLt' f (.int a t) (.int b u)) Q E s:=by
 cases f with
 |true=>exact oneLt_int h
 |false=>
  rw[oneLt'_eq];rw[if_neg (by decide)];have:=CmpOf.ints_lt (prog:=prog) (w:=w) (A:=A) (P:=λi v=>(i=0/\v=.int a t)\/(i=1/\v=.int b u)) (λi=>if i=0 then a else b) (λi v hv=>by
   rcases hv with⟨rfl,rfl⟩ |⟨rfl,rfl⟩
   ·exact⟨t,rfl⟩
   ·exact⟨u,rfl⟩)
  exact wpAny_bind (this 0 1 _ _ s _ E (.inl ⟨rfl,rfl⟩) (.inr ⟨rfl,rfl⟩) (wpAny_truthy_bool h))
theorem ziq{f:Bool}:∀{xs ys:List Value}{as bs:List Int} (k:Nat) (Q:Option Bool×Unit->Shared->Prop),IntsAre xs as->IntsAre ys bs->(∀r,(r=none->as.take bs.length=bs.take as.length)->(∀b,r=some b->b=decide (as<bs))->Q (r,()) s) ->
  wpAny (model prog w) A (forIn ((xs.zip ys).zipIdx k) ((none,()):Option Bool×Unit) λx _=>match x with
   |((p,q),i)=>do
    let e <-eqBool p q
    if (!e)=true then do
     let r <-oneLt' (f && i == 0) p q
     pure (ForInStep.done (some r,()))
    else pure (ForInStep.yield (none,()))) Q E s
 |_,_,_,_,k,Q,.nil,h2,q=>by
  simp only[List.zip_nil_left,List.zipIdx_nil,List.forIn_nil];exact wpAny_pure (q none (λ_=>by simp) (λb e=>by cases e))
 |_,_,_,_,k,Q,.cons a t h1,.nil,q=>by
  simp only[List.zip_nil_right,List.zipIdx_nil,List.forIn_nil];exact wpAny_pure (q none (λ_=>by simp) (λb e=>by cases e))
 |_,_,_,_,k,Q,.cons (ns:=as) a t h1,.cons (ns:=bs) b u h2,q=>by
  simp only[List.zip_cons_cons,List.zipIdx_cons,List.forIn_cons];refine wpAny_bind ?_;refine wpAny_bind (wpAny_eqBool_int ?_)
  by_cases c:a=b
  ·subst c;rw[if_neg (by simp)];refine wpAny_pure (ziq (k+1) Q h1 h2 λr r1 r2=>q r (λe=>?_) λd e=>?_)
   ·simp only[List.length_cons,List.take_succ_cons];rw[r1 e]
   ·rw[r2 d e];exact decide_eq_decide.mpr (by rw[List.cons_lt_cons_iff];simp)
  ·rw[if_pos (by simpa using c)];refine wpAny_bind (zhc (wpAny_pure (wpAny_pure (q _ (λe=>by cases e) λd e=>?_))))
   cases e;exact decide_eq_decide.mpr (by rw[List.cons_lt_cons_iff];simp[c])
theorem zdm:∀{as bs:List Int},as.take bs.length=bs.take as.length->decide (as<bs)=decide (as.length<bs.length)
 |[],[],_=>by simp
 |[],b::bs,_=>by simp
 |a::as,[],_=>by simp
 |a::as,b::bs,h=>by
  simp only[List.length_cons,List.take_succ_cons,List.cons.injEq]at h;obtain⟨rfl,h⟩:=h;have:=zdm h;rw[decide_eq_decide]at this ⊢;rw[List.cons_lt_cons_iff];simp only[Int.lt_irrefl,false_or,true_and,List.length_cons,this];omega
theorem zoe{h₀:Heap}{f:Bool}(k:∀b o,h₀.get? b=some o->s.heap.get? b=some o):qb prog w A s (zhb h₀) (tuples' f):=λE x y a b Q ha hb q=>by
 obtain⟨ra,ia,rfl,⟨oa,ga,_,na,da⟩,ta⟩:=(zbk ha).keep k;obtain⟨rb,ib,rfl,⟨ob,gb,_,nb,db⟩,tb⟩:=(zbk hb).keep k;refine wpAny_bind (listItems_at ga da (wpAny_bind (listItems_at gb db (wpAny_bind (ziq 0 _ ta tb λr r1 r2=>?_)))))
 cases r with
 |some d=>
  dsimp only
  cases r2 d rfl;exact wpAny_pure q
 |none=>
  dsimp only;refine wpAny_pure ?_;have:=zdm (r1 rfl);rw[<-ta.length,<-tb.length]at this;rw[show decide (ia.size<ib.size)=(zhb h₀).blt a b from ?_]
  ·exact q
  ·show _=decide (a<b);rw[this];simp
end
end SQ
namespace SQ
open PySem PyProof.Rows
set_option autoImplicit false
inductive All2{α β:Type}(R:α->β->Prop):List α->List β->Prop
 |nil:All2 R [] []
 |cons {a:α}{b:β}{as:List α}{bs:List β} (h:R a b) (t:All2 R as bs):All2 R (a::as) (b::bs)
theorem All2.len{α β:Type}{R:α->β->Prop}{as:List α}{bs:List β}(h:All2 R as bs):as.length=bs.length:=by
 induction h with
 |nil=>rfl
 |cons _ _ ih=>simp[ih]
theorem All2.imp{α β:Type}{R S:α->β->Prop}(f:∀a b,R a b->S a b){as:List α}{bs:List β}(h:All2 R as bs):All2 S as bs:=by
 induction h with
 |nil=>exact .nil
 |cons h _ ih=>exact .cons (f _ _ h) ih
theorem All2.mem{α β:Type}{R:α->β->Prop}{as:List α}{bs:List β}(h:All2 R as bs){a:α}(ha:a∈as):∃b∈bs,R a b:=by
 induction h with
 |nil=>cases ha
 |cons h _ ih=>
  rcases List.mem_cons.mp ha with rfl|ha
  ·exact⟨_,List.mem_cons_self,h⟩
  ·obtain⟨b,hb,r⟩:=ih ha;exact⟨b,List.mem_cons_of_mem _ hb,r⟩
section
variable {prog:Program}{w:World}{A:Around}{E:Value->Shared->Prop}{s:Shared}
theorem zj3{v:Value}{i:Int}{is:List Int}(h:RefIs s.heap v (i::is)):∃t,∀Q:Option Value->Shared->Prop,Q (some (.int i t)) s->wpAny (model prog w) A (firstOfTuple' v) Q E s:=by
 obtain⟨a,its,rfl,⟨o,g,c,n,d⟩,ii⟩:=h;obtain⟨t,rest,e⟩:∃t rest,its.toList=.int i t::rest:=by
  cases e:its.toList with
  |nil=>rw[e]at ii;cases ii
  |cons x r=>
   rw[e]at ii
   cases ii with
   |cons n t h=>exact⟨t,r,rfl⟩
 refine⟨t,λQ q=>wpAny_bind (wpAny_typeOf (T := "tuple") ⟨o,g,c⟩ ?_)⟩;rw[if_neg (by decide)];refine wpAny_bind (listItems_at g d (wpAny_pure ?_));have:its[0]?=some (.int i t):=by rw[<-Array.getElem?_toList,e];rfl
 rw[this];exact q
theorem zdn:∀{vs:List Value}{tss:List (List Int)},All2 (RefIs s.heap) vs tss->(∀t∈tss,t ≠ [])->∃(fs:List Value) (ns:List Int),IntsAre fs ns/\fs.length=vs.length/\∀Q:List (Option Value)->Shared->Prop,Q (fs.map some) s->wpAny (model prog w) A (vs.mapM firstOfTuple') Q E s
 |_,_,.nil,_=>⟨[],[],.nil,rfl,λQ q=>by rw[List.mapM_nil];exact wpAny_pure q⟩
 |_,_,.cons (b:=t) h r,hne=>by
  obtain⟨fs,ns,i1,l1,w1⟩:=zdn r λx hx=>hne x (List.mem_cons_of_mem _ hx)
  cases t with
  |nil=>exact absurd rfl (hne [] List.mem_cons_self)
  |cons i is=>
   obtain⟨t,w2⟩:=zj3 (prog:=prog) (w:=w) (A:=A) (E:=E) h;refine⟨.int i t::fs,i::ns,.cons i t i1,by simp[l1],λQ q=>?_⟩;rw[List.mapM_cons];exact wpAny_bind (w2 _ (wpAny_bind (w1 _ (wpAny_pure q))))
theorem zj4{vs:List Value}{tss:List (List Int)}{Q:SortKind->Shared->Prop}(h:All2 (RefIs s.heap) vs tss)(hne:∀t∈tss,t ≠ [])(h2:2<=vs.length)(q:Q (tuples' true) s):wpAny (model prog w) A (keyKind' vs.toArray) Q E s:=by
 obtain⟨fs,ns,i1,l1,w1⟩:=zdn (prog:=prog) (w:=w) (A:=A) (E:=E) h hne;rw[keyKind'_eq,List.mapM_toArray];simp only[map_eq_pure_bind,bind_assoc,pure_bind];refine wpAny_bind (w1 _ ?_);rw[if_pos (by simp)];refine wpAny_bind (m:=rule _) (wpAny_rule ?_);have ef:Array.filterMap id (List.map some fs).toArray=fs.toArray:=by simp
 rw[ef,oneTypeOnly'_eq,List.mapM_toArray,mapM_typeOf_ints i1];simp only[map_pure,pure_bind]
 cases fs with
 |nil=>simp at l1;omega
 |cons f fs=>
  have hall:((List.map (λ_=>Value.type "int") (f::fs)).toArray.all λx=>x == Value.type "int")=true:=by
   simp only[List.all_toArray,List.all_map,List.all_eq_true];intro _ _;rfl
  have g0:(List.map (λ_=>Value.type "int") (f::fs)).toArray[0]?=some (Value.type "int"):=by simp
  rw[g0];simp only[hall,if_true,pure_bind];exact wpAny_pure q
theorem qc{κ:KeyKind}{vs:List Value}(h:∀v∈vs,∃a,κ.keyOf v=some a):KeysOf κ (pairsOf vs):=λp hp=>by
 rw[pairsOf_toList]at hp;exact h _ (mem_zip_self hp).2
theorem zbc{κ:KeyKind}{vs:List Value}{out:Array Keyed}(p:out.Perm (pairsOf vs))(so:SortedToK κ out (pairsOf vs).size)(hk:∀v∈vs,∃a,κ.keyOf v=some a):
  (out.map (·.2)).toList.Perm vs/\∃ks:List κ.α,All2 (λv k=>κ.keyOf v=some k) (out.map (·.2)).toList ks/\ks.Pairwise κ.kle:=by
 have pl:=Array.perm_iff_toList_perm.mp p;rw[pairsOf_toList]at pl;have diag:∀x∈out.toList,x.1=x.2/\x.1∈vs:=λx hx=>mem_zip_self (pl.mem_iff.mp hx);refine⟨?_,out.toList.map λx=>(κ.keyOf x.1).getD κ.dflt,?_,?_⟩
 ·rw[Array.toList_map];have:=pl.map (·.2)
  rwa [show(vs.zip vs).map (·.2)=vs by rw[List.map_snd_zip (Nat.le_refl _)]]at this
 ·rw[Array.toList_map];clear so p pl;generalize out.toList=l at diag
  induction l with
  |nil=>exact .nil
  |cons x l ih=>
   refine .cons ?_ (ih λy hy=>diag y (List.mem_cons_of_mem _ hy));obtain⟨e,m⟩:=diag x List.mem_cons_self;obtain⟨a,ea⟩:=hk _ m;show κ.keyOf x.2=some ((κ.keyOf x.1).getD κ.dflt);rw[<-e,ea];rfl
 ·rw[List.pairwise_map,List.pairwise_iff_getElem];intro i j h1 h2 hij;have h1':i<out.size:=by simpa using h1
  have h2':j<out.size:=by simpa using h2
  have:=so i j (Nat.le_of_lt hij) (by rw[<-p.size_eq];exact h2');unfold KK at this;rw[Array.getElem?_eq_getElem h1',Array.getElem?_eq_getElem h2']at this;simpa using this
end
end SQ
namespace L2
open PySem PySem.Spec PyProof.Rows SQ
def zir(ns:List Int):List Int:=ns.mergeSort (λa b=>decide (a<=b))
def zce(tss:List (List Int)):List (List Int):=tss.mergeSort (λa b=>!decide (b<a))
def tD(is:List Int):D:=.tuple (is.map PyData.int)
theorem zhd(ns:List Int):(zir ns).Perm ns:=List.mergeSort_perm _ _
theorem zmc(ns:List Int):(zir ns).Pairwise (· <= ·):=by
 have:=List.pairwise_mergeSort (le:=λa b:Int=>decide (a<=b)) (λa b c h1 h2=>by simp at *;omega) (λa b=>by simp;omega) ns;exact this.imp λh=>by simpa using h
theorem zhe{ms ns:List Int}(p:ms.Perm ns)(h:ms.Pairwise (· <= ·)):ms=zir ns:=(p.trans (zhd ns).symm).eq_of_pairwise (λa b _ _ h3 h4=>Int.le_antisymm h3 h4) h (zmc ns)
theorem j3(tss:List (List Int)):(zce tss).Perm tss:=List.mergeSort_perm _ _
theorem zj5{a b c:List Int}(h1:¬ b<a)(h2:¬ c<b):¬ c<a:=λh=>h1 (List.lt_of_le_of_lt (List.not_lt.mp h2) h)
theorem zf1(tss:List (List Int)):(zce tss).Pairwise λa b=>¬ b<a:=by
 have:=List.pairwise_mergeSort (le:=λa b:List Int=>!decide (b<a)) (λa b c h1 h2=>by
  simp only[Bool.not_eq_true',decide_eq_false_iff_not]at *;exact zj5 h1 h2) (λa b=>by
  simp only[Bool.or_eq_true,Bool.not_eq_true',decide_eq_false_iff_not]
  by_cases c:b<a
  ·exact .inr λz=>List.lt_irrefl _ (List.lt_trans z c)
  ·exact .inl c) tss
 exact this.imp λh=>by simpa using h
theorem zhf{ss tss:List (List Int)}(p:ss.Perm tss)(h:ss.Pairwise λa b=>¬ b<a):ss=zce tss:=(p.trans (j3 tss).symm).eq_of_pairwise (λa b _ _ h3 h4=>List.le_antisymm (List.not_lt.mp h3) (List.not_lt.mp h4)) h (zf1 tss)
def zhg(xs:List D)(Q:List D->Prop):Prop:=(∃ns:List Int,xs=ns.map PyData.int/\Q ((zir ns).map PyData.int))\/∃tss:List (List Int),xs=tss.map tD/\(∀t∈tss,t ≠ [])/\Q ((zce tss).map tD)
def zhh:List D->(List D->Prop)->Prop
 |[.list xs],Q=>zhg xs Q
 |[.tuple xs],Q=>zhg xs Q
 |_,_=>False
theorem zdo{K:PySem.W.Frag}{H:Hp}{us us':List Value}(p:us'.Perm us):∀{vs:List V}{ds:List D},Vals vs us->Reps K H ds vs->∃vs' ds',Vals vs' us'/\Reps K H ds' vs'/\ds'.Perm ds:=by
 induction p with
 |nil=>intro vs ds r rp;exact⟨vs,ds,r,rp,.refl _⟩
 |cons u p ih=>
  intro vs ds r rp
  cases r with
  |cons r1 r2=>
   cases rp with
   |cons q1 q2=>
    obtain⟨vs',ds',a1,a2,a3⟩:=ih r2 q2;exact⟨_,_,.cons r1 a1,.cons q1 a2,a3.cons _⟩
 |swap u v l=>
  intro vs ds r rp
  cases r with
  |cons r1 r2=>
   cases r2 with
   |cons r3 r4=>
    cases rp with
    |cons q1 q2=>
     cases q2 with
     |cons q3 q4=>exact⟨_,_,.cons r3 (.cons r1 r4),.cons q3 (.cons q1 q4),.swap _ _ _⟩
 |trans p1 p2 ih1 ih2=>
  intro vs ds r rp;obtain⟨vs1,ds1,a1,a2,a3⟩:=ih2 r rp;obtain⟨vs2,ds2,b1,b2,b3⟩:=ih1 a1 a2;exact⟨vs2,ds2,b1,b2,b3.trans a3⟩
section
variable {X:Cx}
theorem zer{pins:List (Addr×Obj)}{σ:St}{H:Hp}{s:Shared}(I:Inv X pins σ H s):∀{tss:List (List Int)}{vs:List V}{us:List Value},Reps X.K H (tss.map tD) vs->Vals vs us->All2 (RefIs s.heap) us tss
 |[],_,_,.nil,.nil=>.nil
 |t::tss,_,_,.cons r rs,.cons q qs=>by
  refine .cons ?_ (zer I rs qs)
  cases r with
  |tup h r=>
   cases q;have:=Reps.of_ints r;subst this;obtain⟨its,rv,ht,_⟩:=I.tuple h;exact⟨_,its.toArray,rfl,ht,by simpa using v3 rv⟩
theorem zf2{α:Type}{f:α->D}(g:D->α)(hg:∀a,g (f a)=a){ds:List D}{as:List α}(p:ds.Perm (as.map f)):∃bs:List α,ds=bs.map f/\bs.Perm as:=by
 have:∀d∈ds,∃a,d=f a/\True:=λd hd=>by
  obtain⟨a,_,e⟩:=List.mem_map.mp (p.mem_iff.mp hd);exact⟨a,e.symm,trivial⟩
 obtain⟨bs,e,_⟩:=zii this;subst e;refine⟨bs,rfl,?_⟩;have z:∀l:List α,(l.map f).map g=l:=λl=>by rw[List.map_map];exact(List.map_congr_left λa _=>hg a).trans (List.map_id _)
 have:=p.map g
 rwa [z,z]at this
def deI:D->Int
 |.int i=>i
 |_=>0
def deT:D->List Int
 |.tuple xs=>xs.map deI
 |_=>[]
theorem zof(i:Int):deI (.int i)=i:=rfl
theorem zrk(is:List Int):deT (tD is)=is:=by
 show(is.map PyData.int).map deI=is;rw[List.map_map];exact(List.map_congr_left λa _=>rfl).trans (List.map_id _)
theorem zdp{pins:List (Addr×Obj)}{σ:St}{H:Hp}{s:Shared}{Q:List D->Prop}{xs:List D}{vs:List V}{us:List Value}{a:Addr}{T:String}{o:Obj}{n:Nat}(I:Inv X pins σ H s)(r:Reps X.K H xs vs)(rv:Vals vs us)(hT:T = "list" \/ T = "tuple")(ho:s.heap.get? a=some o)(hc:o.cls=.type T)(hd:o.data=.seq us.toArray n)(hz:vs.length<=sizeLine)(q:zhg xs Q):
  wpAny (model X.prog X.w) X.A (call (.builtin "sorted") [.ref a]) (zdh X pins σ H Q) X.xe s:=by
 have zu:us.length<=sizeLine:=by rw[<-rv.length];exact hz
 have fin:∀(out:Array Keyed) (h':Heap) (p:Addr) (e:Nat) (ys:List D) (vs':List V),(out.map (·.2)).toList.Perm us->Vals vs' (out.map (·.2)).toList->Reps X.K H ys vs'->s.heap.objs.size<=p->h'.get? p=some (seqObj "list" (out.map (·.2)) e)->(∀b o,s.heap.get? b=some o->h'.get? b=some o)->Q ys->zdh X pins σ H Q (.ref p) { s with heap:=h' }:=by
  intro out h' p e ys vs' pm rv' r' hp g k qy;have hn:=I.hok.fresh hp;have lv:vs'.length<=sizeLine:=by rw[rv'.length,pm.length_eq];exact zu
  exact⟨p,_,vs',ys,rfl,I.laid (t':=s.toks) (o:=.lst vs') k hp ⟨lv,(out.map (·.2)).toList,e,rv',g⟩,zy hn _,hn,zm,r'.same (zy hn _),qy⟩
 rcases q with⟨ns,rfl,q⟩ |⟨tss,rfl,hne,q⟩
 ·have e1:=Reps.of_ints r;subst e1;have hi:=v3 rv
  have hk:∀v∈us,∃k,intK.keyOf v=some k:=λv hv=>by
   obtain⟨i,t,rfl⟩:=hi.all v hv;exact⟨i,rfl⟩
  refine zf0 (κ:=intK) (kd:=oneType') hT ho hc hd zu (λA' h' _ _=>zio) (qc hk) (λh2 A' E' h' Q' k q=>?_) λout h' p e p1 p2 hp g k=>?_
  ·cases us with
   |nil=>simp at h2
   |cons u us=>
    cases us with
    |nil=>simp at h2
    |cons u2 us=>rw[keyKind_ints hi];exact wpAny_pure q
  ·obtain⟨pm,ks,a2,pw⟩:=zbc p1 p2 hk;obtain⟨vs',ds',rv',r',pd⟩:=zdo pm rv r;obtain⟨ms,rfl,pms⟩:=zf2 deI zof pd;have e2:=Reps.of_ints r';subst e2
   have ek:ks=ms:=by
    have hm:=v3 rv';clear pm pms pw pd r' rv';generalize (out.map (·.2)).toList=l at hm a2
    induction a2 generalizing ms with
    |nil=>cases hm;rfl
    |cons h t ih=>
     cases hm with
     |cons i t' h'=>
      simp only[intK,Option.some.injEq]at h;subst h;rw[ih _ h']
   subst ek;have:=zhe pms (pw.imp λh=>by simpa[intK,KeyOrd.kle]using h);exact fin out h' p e _ _ pm rv' r' hp g k (by rw[this];exact q)
 ·have rf:=zer I r rv
  have hk:∀v∈us,∃k,(zhb s.heap).keyOf v=some k:=λv hv=>by
   obtain⟨t,_,h⟩:=rf.mem hv;exact⟨t,zdl h⟩
  refine zf0 (κ:=zhb s.heap) (kd:=tuples' true) hT ho hc hd zu (λA' h' _ k=>zoe k) (qc hk) (λh2 A' E' h' Q' k q=>zj4 (rf.imp λ_ _ h=>h.keep k) hne h2 q) λout h' p e p1 p2 hp g k=>?_;obtain⟨pm,ks,a2,pw⟩:=zbc p1 p2 hk;obtain⟨vs',ds',rv',r',pd⟩:=zdo pm rv r;obtain⟨ss,rfl,pms⟩:=zf2 deT zrk pd;have rf':=zer I r' rv';have ek:ks=ss:=by
   clear pm pms pw r' rv' pd;generalize (out.map (·.2)).toList=l at rf' a2
   induction a2 generalizing ss with
   |nil=>cases rf';rfl
   |cons h t ih=>
    cases rf' with
    |cons h1 t1=>
     have:=zdl h1;rw[show(zhb s.heap).keyOf _=refKey s.heap _ from rfl,this]at h
     cases h;rw[ih _ t1]
  subst ek;have:=zhf pms (pw.imp λh=>by simpa[zhb,KeyOrd.kle]using h);exact fin out h' p e _ _ pm rv' r' hp g k (by rw[this];exact q)
theorem zog:CallF X (.builtin "sorted") zhh:=⟨λpins s σ H vs us ds Q I rv rd q=>by
 match ds,q,rd with
 |[.list xs],q,rd=>
  obtain⟨v,rfl,r⟩:=rd.one;obtain⟨a,vs,rfl,h,r⟩:=r.list.sq;obtain⟨u,rfl,r1⟩:=rv.one
  cases r1;obtain⟨its,rvs,pl,hz⟩:=I.list h;obtain⟨o,ho,hc,n,hd⟩:=pl.isList;exact zdp I r rvs (.inl rfl) ho hc hd hz q
 |[.tuple xs],q,rd=>
  obtain⟨v,rfl,r⟩:=rd.one;obtain⟨a,vs,rfl,h,r⟩:=r.tuple;obtain⟨u,rfl,r1⟩:=rv.one
  cases r1;obtain⟨its,rvs,⟨o,ho,hc,n,hd⟩,hz⟩:=I.tuple h;exact zdp I r rvs (.inr rfl) ho hc hd hz q⟩
end
end L2
namespace L2
open PySem PySem.Spec PyProof.Rows
namespace RV
theorem zt6:Manifest.owners.lookup (String.ofList ['d','e','s','r','e','v','e','r'].reverse)=some Manifest.sig_reversed:=by kernel_rfl
theorem sNext:Slot "reversed" "__next__" "reversed.__next__" := .of (owner := "reversed") (n := "__next__") (by rw[typeLookup_type,builtinLookup_eq_fast];kernel_rfl) (by decide +kernel) (by decide +kernel) (by decide +kernel) (by first|exact .inl (by decide +kernel)|exact .inr (by decide +kernel)) (by rw[isSubtype_type];kernel_rfl)
theorem zpi:Slot "reversed" "__iter__" "reversed.__iter__" := .of (owner := "reversed") (n := "__iter__") (by rw[typeLookup_type,builtinLookup_eq_fast];kernel_rfl) (by decide +kernel) (by decide +kernel) (by decide +kernel) (by first|exact .inl (by decide +kernel)|exact .inr (by decide +kernel)) (by rw[isSubtype_type];kernel_rfl)
theorem zs3(a:Value):argsOk "reversed.__iter__" ⟨[a],[]⟩:=by
 unfold argsOk;rw[signature?_of (id := "reversed.__iter__") (n:=['_','_','r','e','t','i','_','_']) (o:=['d','e','s','r','e','v','e','r']) (by kernel_rfl) zt6];kernel_rfl
theorem zs4:entryFor table "reversed.__iter__" = some Builtin.«dict_keyiterator.__iter__»:=entryFor_alias (id' := "dict_keyiterator.__iter__") (by kernel_rfl) (by first|rfl|decide +kernel |(unfold String.splitOn;simp +decide [String.splitOnAux])) (by decide +kernel) (by kernel_rfl)
end RV
namespace RV
def ob(l:Addr)(i:Int):Obj:={ cls:=.type "reversed",data:=.fields #[.ref l,rawInt i] }
def Is(h:Heap)(a l:Addr)(i:Int):Prop:=∃o,h.get? a=some o/\o.cls=.type "reversed" /\ o.data=.fields #[.ref l,rawInt i]
theorem Is.typeIs{s:Shared}{a l:Addr}{i:Int}(x:Is s.heap a l i):s.TypeIs (.ref a) "reversed" := let ⟨o,ho,hc,_⟩:=x;⟨o,ho,hc⟩
theorem Is.at{h h':Heap}{a l:Addr}{i:Int}(x:Is h a l i)(e:∀o,h.get? a=some o->h'.get? a=some o):Is h' a l i:=let ⟨o,ho,r⟩:=x;⟨o,e _ ho,r⟩
section
variable {prog:Program}{w:World}{A:Around}{E:Value->Shared->Prop}{s:Shared}
theorem iter{it l:Addr}{i:Int}{Q:Value->Shared->Prop}(hit:Is s.heap it l i)(h:Q (.ref it) s):wpAny (model prog w) A (pyIter (.ref it)) Q E s:=by
 refine wpAny_pyIter_slot hit.typeIs zpi (wpAny_call_entry zpi hit.typeIs zs4 ?_ (zs3 _));show wpAny _ _ (ret (.ref it)) _ _ s;exact wpAny_pure ⟨_,rfl, "reversed",_,hit.typeIs,sNext.lookup,h⟩
end
end RV
section
variable {X:Cx}{tg a:Expr}{t:DTF}{p pos:Pos}
end
section
variable {X:Cx}{a:Expr}{p pos p2 pos2:Pos}
end
def zt7(TI TO:Addr)(old fl:Value):Obj:={ cls:=.type "zip",dict:=none,data:=.fields #[old,fl,.bool false,.ref TI,.ref TO],slots:=#[] }
def IsZ(h:Heap)(z TI TO:Addr)(old fl:Value):Prop:=h.get? z=some (zt7 TI TO old fl)
def zt8(old:Value):Prop:=old=.none\/∃p:Addr,old=rawInt p
section
variable {prog:Program}{w:World}{A:Around}{E:Value->Shared->Prop}{s:Shared}
end
def ZSt(b1 b2:Bool)(z TI TO i1 i2 l1 l2:Addr)(k:Nat)(h:Heap):Prop:=∃old fl a b,IsZ h z TI TO old fl/\zt8 old/\IsPair h TI (.ref i1) (.ref i2)/\IsPair h TO a b/\zIt b1 h i1 l1 k/\zIt b2 h i2 l2 k
theorem ZSt.keep{b1 b2:Bool}{z TI TO i1 i2 l1 l2:Addr}{k:Nat}{h h':Heap}(st:ZSt b1 b2 z TI TO i1 i2 l1 l2 k h)(kp:∀b ∈ [z,TI,TO,i1,i2],∀o,h.get? b=some o->h'.get? b=some o):ZSt b1 b2 z TI TO i1 i2 l1 l2 k h':=by
 obtain⟨old,fl,a,b,hz,ho,hI,hO,h1,h2⟩:=st;exact⟨old,fl,a,b,kp _ (by simp) _ hz,ho,kp _ (by simp) _ hI,kp _ (by simp) _ hO,h1.at λo e=>kp i1 (by simp) o e,h2.at λo e=>kp i2 (by simp) o e⟩
section
variable {prog:Program}{w:World}{A:Around}{E:Value->Shared->Prop}{s:Shared}
end
section
variable {prog:Program}{w:World}{A:Around}{E:Value->Shared->Prop}{s:Shared}
end
section
variable {X:Cx}{a b:Expr}{p pos p2 pos2:Pos}{elts:List Expr}{tpos:Pos}
end
section
variable {X:Cx}
variable {o e:Expr}{to te:DTE}{apos cpos:Pos}
end
section
variable {X:Cx}{e:Expr}{tf:DTF}{pos:Pos}
end
section
variable (P:Program)(w:World)
end
section
variable {P:Program}{w:World}{H H':Hp}{h h':Heap}{a:Addr}{o:HO}
end
section
variable {P:Program}{w:World}{H:Hp}{h h':Heap}{x e:Addr}{o':HO}
end
section
variable {fs fs' ex ex':List Addr}{H H1 H2:Hp}{h h1 h2 h':Heap}{a x e:Addr}{o:HO}
end
section
variable {X:Cx}{pins:List (Addr×Obj)}{σ:List (Option V)}{H H':Hp}{s:Shared}{h':Heap}
end
section
variable {X:Cx}
variable {a b:Expr}{ta tb:TE}{pos:Pos}
variable {tA tB':TT}{rest:List Expr}
end
section
variable {X:Cx}{pins:List (Addr×Obj)}{σ:St}{H:Hp}{s:Shared}{a:Addr}{xs ys:List V}
end
section
variable {X:Cx}{pins:List (Addr×Obj)}{σ:St}{H:Hp}{s:Shared}{E:Value->Shared->Prop}
end
section
variable {X:Cx}{st:Stmt}{rest:List Stmt}{t u:TS}{e:Expr}{te:TE}{pos:Pos}
end
section
variable {X:Cx}{pos:Pos}
end
section
variable {X:Cx}{pos:Pos}
end
section
variable {X:Cx}{tg:Expr}
end
section
variable {X:Cx}{a b c:Expr}{ta tb tc:TE}{pos:Pos}
end
section
variable {X:Cx}{a b c:Expr}{ta tb tc:TE}{pos:Pos}
end
section
variable {prog:Program}{w:World}{A:Around}{E:Value->Shared->Prop}{s:Shared}{K:PySem.W.Frag}{x dx C f:Addr}{mA:Str->Option Value}{name:Str}{v:Value}
end
section
variable {P:Program}{w:World}{H H':Hp}{h h':Heap}{a C dx:Addr}{fs fs':List (Str×V)}
end
section
variable {X:Cx}{pins:List (Addr×Obj)}{σ:St}{H:Hp}{s:Shared}{a C dx:Addr}{fs:List (Str×V)}{f:Str}{v:V}{A:Around}{E:Value->Shared->Prop}
end
section
variable {X:Cx}{o e value:Expr}{f:Str}{pos pos' tpos:Pos}{ta tv:TE}
end
section
variable {X:Cx}{pins:List (Addr×Obj)}{σ:St}{H:Hp}{s:Shared}{A:Around}{E:Value->Shared->Prop}{Q:Value->Shared->Prop}{c:Value}{b:Bool}
end
section
variable {X:Cx}{e:Expr}{es:List Expr}{te:TE}{t:TA}{pos:Pos}
end
section
variable {X:Cx}{pins:List (Addr×Obj)}{σ:St}{H:Hp}{s s':Shared}
end
section
variable {X:Cx}{CX:CXT}{k:Nat}{f C:Addr}{fd:FuncData}{ps:List Str}{sp:Sp}{dvs:List V}{ds:List Value}{E:XK}{x m:Str}{p pos apos:Pos}{e o:Expr}{es:List Expr}{ta:TE}{t:TA}
end
section
variable {X:Cx}{CX:CXT}{k:Nat}{f C:Addr}{fd:FuncData}{ps ks:List Str}{sp:Sp}{E:XK}{x m:Str}{p pos apos kpos:Pos}{e o:Expr}{es:List Expr}{kws:List Keyword}{te ta:TE}{t tk:TA}{nm:Option Str}
variable {g:List Value->List Value->List Value}{gV:List V->List V->List V}
end
section
variable {X:Cx}{x:Str}{p pos:Pos}{e:Expr}{es:List Expr}{t:TA}{id T:String}{r:List V->Hp->VK->Prop}
end
section
variable {κ:Type}[DecidableEq κ]
def zcf(kvs:List (κ×V))(k:κ):Option V:=(kvs.find? λkv=>decide (kv.1=k)).map (·.2)
def zoh(kvs:List (κ×V))(k:κ)(v:V):List (κ×V) :=
 if (kvs.any λkv=>decide (kv.1=k))=true then kvs.map (λkv=>if kv.1=k then (kv.1,v) else kv) else kvs ++ [(k,v)]
theorem zf3{p:κ×V}{r:List (κ×V)}{k:κ}(e:p.1=k):zcf (p::r) k=some p.2:=by simp[zcf,List.find?_cons,e]
theorem zf4{p:κ×V}{r:List (κ×V)}{k:κ}(e:¬ p.1=k):zcf (p::r) k=zcf r k:=by simp[zcf,List.find?_cons,e]
theorem KV.val{kvs:List (κ×V)}{vs:List (κ×Value)}(r:KV kvs vs)(k:κ):zje (zcf kvs k) (valueAt vs k):=by
 unfold KV at r
 induction r with
 |nil=>exact True.intro
 |@cons p q ps qs h t ih=>
  obtain⟨h1,h2⟩:=h
  by_cases e:p.1=k
  ·have e':q.1=k:=h1.symm.trans e;have b:valueAt (q::qs) k=some q.2:=by simp[valueAt,List.find?_cons,e']
   rw[zf3 e,b];exact h2
  ·have e':¬ q.1=k:=λz=>e (h1.trans z);have b:valueAt (q::qs) k=valueAt qs k:=by simp[valueAt,List.find?_cons,e']
   rw[zf4 e,b];exact ih
theorem KV.any{kvs:List (κ×V)}{vs:List (κ×Value)}(r:KV kvs vs)(k:κ):(kvs.any λkv=>decide (kv.1=k))=vs.any λkv=>decide (kv.1=k):=by
 unfold KV at r
 induction r with
 |nil=>rfl
 |cons h t ih=>rw[List.any_cons,List.any_cons,ih,h.1]
theorem KV.length{kvs:List (κ×V)}{vs:List (κ×Value)}(r:KV kvs vs):kvs.length=vs.length:=Paired.length r
end
abbrev KT(H:Hp):List (List Key×V)->List (List Key×Addr×Value)->Prop:=Paired λp q=>p.1=q.1/\H q.2.1=some (.tup (p.1.map kV))/\RelV p.2 q.2.2
theorem KT.val{H:Hp}{kvs:List (List Key×V)}{xs:List (List Key×Addr×Value)}(r:KT H kvs xs)(k:List Key):zje (zcf kvs k) ((atKey xs k).map (·.2)):=by
 induction r with
 |nil=>exact True.intro
 |@cons p q ps qs h t ih=>
  obtain⟨h1,_,h2⟩:=h
  by_cases e:p.1=k
  ·have e':q.1=k:=h1.symm.trans e;have b:atKey (q::qs) k=some q.2:=by simp[atKey,List.find?_cons,e']
   rw[zf3 e,b];exact h2
  ·have e':¬ q.1=k:=λz=>e (h1.trans z);have b:atKey (q::qs) k=atKey qs k:=by simp[atKey,List.find?_cons,e']
   rw[zf4 e,b];exact ih
theorem KT.keeps{H H':Hp}{kvs:List (List Key×V)}{xs:List (List Key×Addr×Value)}(r:KT H kvs xs)(ht:∀b ys,H b=some (.tup ys)->H' b=some (.tup ys)):KT H' kvs xs :=
 Paired.mapP r λ_ _ z=>⟨z.1,ht _ _ z.2.1,z.2.2⟩
section
variable {P:Program}{w:World}{H:Hp}{h:Heap}{a:Addr}
end
def DGet(H:Hp)(a:Addr)(y:V)(r:Option V):Prop :=
 (∃kvs k,Rd H a (.dK kvs)/\y=kV k/\r=zcf kvs k)\/∃kvs k b,Rd H a (.dT kvs)/\y=.ref b/\H b=some (.tup (k.map kV))/\r=zcf kvs k
def DPut(H:Hp)(a:Addr)(y v:V)(H':Hp):Prop :=
 (∃kvs k,H a=some (.dK kvs)/\y=kV k/\kvs.length<sizeLine/\H'=upd H a (.dK (zoh kvs k v))) \/
 ∃kvs k b,H a=some (.dT kvs)/\y=.ref b/\H b=some (.tup (k.map kV))/\kvs.length<sizeLine/\H'=upd H a (.dT (zoh kvs k v))
theorem DGet.k{H:Hp}{a:Addr}{kvs:List (Key×V)}{k:Key}(e:H a=some (.dK kvs)):DGet H a (kV k) (zcf kvs k):=.inl ⟨kvs,k,.inl e,rfl,rfl⟩
theorem DGet.t{H:Hp}{a b:Addr}{kvs:List (List Key×V)}{k:List Key}(e:H a=some (.dT kvs))(eb:H b=some (.tup (k.map kV))):DGet H a (.ref b) (zcf kvs k):=.inr ⟨kvs,k,b,.inl e,rfl,eb,rfl⟩
theorem DPut.k{H:Hp}{a:Addr}{kvs:List (Key×V)}{k:Key}{v:V}(e:H a=some (.dK kvs))(hl:kvs.length<sizeLine):DPut H a (kV k) v (upd H a (.dK (zoh kvs k v))):=.inl ⟨kvs,k,e,rfl,hl,rfl⟩
theorem DPut.t{H:Hp}{a b:Addr}{kvs:List (List Key×V)}{k:List Key}{v:V}(e:H a=some (.dT kvs))(eb:H b=some (.tup (k.map kV)))(hl:kvs.length<sizeLine):
  DPut H a (.ref b) v (upd H a (.dT (zoh kvs k v))):=.inr ⟨kvs,k,b,e,rfl,eb,hl,rfl⟩
section
variable {X:Cx}{pins:List (Addr×Obj)}{σ:St}{H:Hp}{s:Shared}{a:Addr}{y v:V}{u r:Value}{o:Option V}{A:Around}{E:Value->Shared->Prop}
end
section
variable {X:Cx}{pins:List (Addr×Obj)}{σ:St}{H:Hp}{s:Shared}{a:Addr}{kvs:List (Key×V)}{k:Key}{u:Value}{A:Around}{E:Value->Shared->Prop}
end
section
variable {X:Cx}{o i e value:Expr}{pos pos' tpos:Pos}{td ty tv:TE}
end
section
variable {X:Cx}{pos:Pos}
end
structure M1(X:Cx)(o:Expr)(m:Str)(apos:Pos)(e:Expr)(cpos:Pos):Prop where
 base:attributeBase o m X.env (eval o X.env)=eval o X.env
 few:((backTo cpos (starEach [e] X.env)).all (λx=>!x.1) && (backToKw cpos (keywordEach [] X.env)).all (λx=>x.1.isSome)
  && decide (([e]:List Expr).length+([]:List Keyword).length+(if ([]:List Keyword).isEmpty then 0 else 1)<30))=true
 line:(apos.endLine == cpos.line)=true
 trees:backTo cpos (starEach [e] X.env) = [(false,eval e X.env)]
structure M2(X:Cx)(o:Expr)(m:Str)(apos:Pos)(e f:Expr)(cpos:Pos):Prop where
 base:attributeBase o m X.env (eval o X.env)=eval o X.env
 few:((backTo cpos (starEach [e,f] X.env)).all (λx=>!x.1) && (backToKw cpos (keywordEach [] X.env)).all (λx=>x.1.isSome)
  && decide (([e,f]:List Expr).length+([]:List Keyword).length+(if ([]:List Keyword).isEmpty then 0 else 1)<30))=true
 line:(apos.endLine == cpos.line)=true
 trees:backTo cpos (starEach [e,f] X.env) = [(false,eval e X.env),(false,eval f X.env)]
section
variable {X:Cx}{pins:List (Addr×Obj)}{σ:St}{H:Hp}{s:Shared}{a:Addr}{y d:V}{u r:Value}{o:Option V}{A:Around}{E:Value->Shared->Prop}
end
section
variable {X:Cx}{o e f:Expr}{apos cpos:Pos}{td ty tx:TE}
end
section
variable {X:Cx}{pins:List (Addr×Obj)}{σ:St}{H:Hp}{s:Shared}{a:Addr}{kvs:List (Key×V)}{A:Around}{E:Value->Shared->Prop}
end
section
variable {X:Cx}{pins:List (Addr×Obj)}{σ:St}{H:Hp}{s:Shared}{a:Addr}{y:V}{u:Value}{A:Around}{E:Value->Shared->Prop}
end
end L2
namespace Att
open PySem PySem.W PySem.Calls PyProof.Rows
section
variable {prog:Program}{w:World}{A:Around}{E:Value->Shared->Prop}{s:Shared}{K:Frag}
end
end Att
namespace L2
open PySem PySem.Spec PyProof.Rows
section
variable {P:Program}{w:World}{K:PySem.W.Frag}{mg:Str->Option Value}{base:Heap}
end
section
variable {X:Cx}
end
section
variable {κ:Type}[DecidableEq κ]
end
section
variable {K:PySem.W.Frag}{H H':Hp}
theorem RepKV.split{ks:List (Key×D)}{vs:List (Key×V)}{p:Key×D}(h:RepKV K H (p::ks) vs):∃v vs',vs=(p.1,v)::vs'/\Rep K H p.2 v/\RepKV K H ks vs':=by
 obtain⟨h1,h2⟩:=h
 cases vs with
 |nil=>cases h1
 |cons q vs=>
  obtain⟨k,v⟩:=q;rw[List.map_cons,List.map_cons,List.cons.injEq]at h1;rw[List.map_cons,List.map_cons]at h2
  cases h2 with
  |cons r t=>
   obtain⟨e,e2⟩:=h1;have e':p.1=k:=e;subst e';exact⟨v,vs,rfl,r,e2,t⟩
theorem RepKV.cons{ks:List (Key×D)}{vs:List (Key×V)}{k:Key}{d:D}{v:V}(r:Rep K H d v)(h:RepKV K H ks vs):RepKV K H ((k,d)::ks) ((k,v)::vs):=⟨by simp[h.1],.cons r h.2⟩
theorem RepKV.nil':RepKV K H [] []:=⟨rfl,.nil⟩
theorem RepKV.len{ks:List (Key×D)}{vs:List (Key×V)}(h:RepKV K H ks vs):ks.length=vs.length:=by
 have:=congrArg List.length h.1;simpa using this
theorem RepKV.any:∀{ks:List (Key×D)}{vs:List (Key×V)} (k:Key),RepKV K H ks vs->(ks.any λkv=>decide (kv.1=k))=vs.any λkv=>decide (kv.1=k)
 |[],vs,k,h=>by
  cases vs with
  |nil=>rfl
  |cons q vs=>cases h.1
 |p::ks,vs,k,h=>by
  obtain⟨v,vs',rfl,r,t⟩:=h.split;rw[List.any_cons,List.any_cons,RepKV.any k t]
theorem RepKV.map:∀{ks:List (Key×D)}{vs:List (Key×V)}{k:Key}{d:D}{v:V},RepKV K H ks vs->Rep K H d v->RepKV K H (ks.map λkv=>if kv.1=k then (kv.1,d) else kv) (vs.map λkv=>if kv.1=k then (kv.1,v) else kv)
 |[],vs,k,d,v,h,_=>by
  cases vs with
  |nil=>exact RepKV.nil'
  |cons q vs=>cases h.1
 |p::ks,vs,k,d,v,h,rd=>by
  obtain⟨v',vs',rfl,r,t⟩:=h.split;rw[List.map_cons,List.map_cons];have ih:=RepKV.map (k:=k) t rd;obtain⟨pk,pd⟩:=p
  by_cases c:pk=k
  ·simp only[c,if_true];exact RepKV.cons rd ih
  ·simp only[c,if_false];exact RepKV.cons r ih
end
section
variable {K:PySem.W.Frag}{H₀ H H':Hp}{σD:DSt}{σ:St}
end
section
variable {X:Cx}{e:Expr}{te tk tv:DTE}{pos:Pos}
end
section
variable {X:Cx}
variable {o e:Expr}{to te:DTE}{apos cpos:Pos}
end
end L2
namespace SQ
open PySem PyProof.Rows
set_option autoImplicit false
section
variable {κ:KeyKind}
variable {prog:Program}{w:World}{A:Around}{E:Value->Shared->Prop}{s:Shared}{κ:KeyKind}{kd:SortKind}{a₀:Array Keyed}
end
section
variable {prog:Program}{w:World}{A:Around}{E:Value->Shared->Prop}{s:Shared}
end
end SQ
namespace L2
open PySem PySem.Spec PyProof.Rows SQ
section
variable {X:Cx}
end
end L2
namespace L2
open PySem PySem.Spec PyProof.Rows
end L2
namespace L2
open PySem PySem.Spec PyProof.Rows PySem.Builtin PySem.Builtin.Str
def tx(x:Str):List Nat:=x.cps.toList
def Dl(r:List Nat):Prop:=∀c t,r=c::t->c=44\/c=41\/c=93
theorem Dl.c{c:Nat}{r:List Nat}(h:c=44\/c=41\/c=93):Dl (c::r):=λa t e=>by
 rw[<-(List.cons.inj e).1];exact h
section
variable {xs ys:List D}{r r':List Nat}
end
end L2
namespace L2
open PySem PySem.Spec PyProof.Rows
section
variable {X:Cx}{e:Expr}{p pos:Pos}
end
section
variable {K:PySem.W.Frag}{H₀ H H':Hp}{σD:DSt}{σ:St}
theorem Nst.upd{b:Addr}{vs:List V}{ys:List D}(p:Pers H (upd H b (.lst vs)))(r:Reps K H ys vs):∀{xss:List (List D)}{as:List Addr}{k:Nat},as.Nodup->Nst K H xss as->as[k]?=some b->Nst K (upd H b (.lst vs)) (xss.set k ys) as
 |[],[],k,_,_,e=>by simp at e
 |xs::xss,c::as,0,nd,h,e=>by
  simp at e;subst e;rw[List.nodup_cons]at nd;exact⟨⟨vs,zm,r.mono p⟩,h.2.keep p λa ha u hu=>by rw[zh (λz=>nd.1 (by rw[<-z];exact ha))];exact hu⟩
 |xs::xss,c::as,k+1,nd,h,e=>by
  rw[List.nodup_cons]at nd;have e':as[k]?=some b:=by simpa using e
  obtain⟨⟨ws,e1,r1⟩,t⟩:=h;exact⟨⟨ws,by rw[zh (λz=>nd.1 (by rw[z];exact List.mem_of_getElem? e'))];exact e1,r1.mono p⟩,Nst.upd p r nd.2 t e'⟩
end
section
variable {X:Cx}{e e1 e2 e3:Expr}{pos:Pos}{te t3:DTE}{t1 t2:DTF}
theorem Nst.at:∀{K:PySem.W.Frag}{H:Hp}{xss:List (List D)}{as:List Addr}{k:Nat}{xs:List D},Nst K H xss as->xss[k]?=some xs->∃b vs,as[k]?=some b/\H b=some (.lst vs)/\Reps K H xs vs
 |_,_,_::_,b::_,0,_,h,e=>by
  simp at e;subst e;obtain⟨vs,e1,r⟩:=h.1;exact⟨b,vs,rfl,e1,r⟩
 |_,_,_::_,_::_,k+1,_,h,e=>by
  obtain⟨b,vs,h1,h2⟩:=Nst.at h.2 (k:=k) (by simpa using e);exact⟨b,vs,by simpa using h1,h2⟩
 |_,_,[],[],_,_,_,e=>by simp at e
variable {o:Expr}{to:DTE}{apos cpos:Pos}
end
structure Sl(fs:List Addr)(e:Addr)(h h':Heap):Prop where
 keep:∀b o,h.get? b=some o->b≠e->b∉fs->h'.get? b=some o
 slot:∀b o,h.get? b=some o->b≠e->∃sl,h'.get? b=some { o with slots:=sl }
def Fly(h:Heap)(e:Addr)(cls:Value)(od:Option Addr):Prop :=
 ∃oe vs T oT ts,h.get? e=some oe/\(oe.cls=cls/\oe.dict=od)/\oe.data=.fields vs/\vs[1]?=some (.ref T)/\T≠e/\h.get? T=some oT/\oT.data=.fields ts/\ts[3]?=some .none
def zrl(h:Heap)(e:Addr)(cls:Value)(od:Option Addr):Prop :=
 Fly h e cls od\/∃oe vs,h.get? e=some oe/\(oe.cls=cls/\oe.dict=od)/\oe.data=.fields vs/\vs[1]?=some .none
theorem zj6(o:Obj)(f):(o.mapFields f).dict=o.dict:=by
 obtain⟨c,d,dt,sl⟩:=o
 cases dt <;> rfl
theorem zdq{o:Obj}{ts:Array Value}{i:Nat}{x:Value}(hd:o.data=.fields ts)(hx:ts[i]?=some x):o.mapFields (·.setIfInBounds i x)=o:=by
 obtain⟨c,d,dt,sl⟩:=o;subst hd;obtain⟨hi,e⟩:=Array.getElem?_eq_some_iff.mp hx;have:ts.setIfInBounds i x=ts:=by
  apply Array.ext
  ·simp
  ·intro j h1 h2;rw[Array.getElem_setIfInBounds]
   split
   ·next q=>subst q;exact e.symm
   ·rfl
 show(⟨c,d,.fields (ts.setIfInBounds i x),sl⟩:Obj)=_;rw[this]
theorem zao{h:Heap}{T:Addr}{o:Obj}{ts:Array Value}{i:Nat}{x:Value}(e:h.get? T=some o)(hd:o.data=.fields ts)(hx:ts[i]?=some x)(b:Addr):
  (h.update T (Obj.mapFields (·.setIfInBounds i x))).get? b=h.get? b:=by
 by_cases q:T=b
 ·subst q;rw[Heap.get?_update_self _ e (by rw[zdq hd hx];exact Obj.isFreed_of_fields hd),zdq hd hx,e]
 ·exact Heap.get?_update_other _ _ q
section
variable {M:Model}{A:Around}{E:Value->Shared->Prop}{s:Shared}{base:Heap}{env:Env}{outer:List Env}{L e:Addr}{Q:Unit->Shared->Prop}
theorem zcg{oe:Obj}{vs:Array Value}{hd0:Value}{nxt:Bool}(hfr:A.frames=some (env::outer))(hl:s.heap.FunFrames base (env::outer))(hf:env.frame=some L)
  (he:s.heap.get? e=some oe) (hd:oe.data=.fields vs) (hsz:1<vs.size) (k:∀h',Sl (frs (env::outer)) e s.heap h'->Fly h' e oe.cls oe.dict->Q () { s with heap:=h' }) :
  wpAny M A (do let a <-frameOf env;let pl <-entryPlaceOf L nxt;let b <-EntryCells.newEntry hd0 a .none (rawInt L) .none pl;setField (.ref e) 1 b) (λ_ s'=>wpAny M A (setFlight (.ref e) none) Q E s') E s:=by
 have nin:e∉frs (env::outer):=λhm=>by
  obtain⟨_,o,ho,hnf⟩:=hl.mem hm;have z:=he.symm.trans ho
  cases z;exact hnf vs hd
 refine wpAny_bind (wpAny_frameOf_fun hfr hl hf λg1 so=>wpAny_bind (wpAny_entryPlaceOf λpl hpl=>?_));unfold EntryCells.newEntry newFields;refine wpAny_bind (wpAny_newObj_type ?_ (hpl.sizeOk5 _ _ _ _ _));generalize ek:([hd0,.ref L,.none,rawInt L,.none]++(if pl.isEmpty then List.replicate 6 Value.none else pl)).toArray=tb;have tbz:3<tb.size:=by rw[<-ek];simp only[List.size_toArray,List.length_append,List.length_cons,List.length_nil];omega
 have e1:g1.get? e=some oe:=(so.2.1 e nin).trans he;have ne:g1.objs.size≠e:=Nat.ne_of_gt (Heap.lt_size e1);have e2:=Heap.get?_push_of_some (h:=g1) { cls:=.type "traceback",dict:=none,data:=.fields tb } e1;refine wpAny_setField e2 hd hsz ?_;have d3:=Obj.data_mapFields hd (·.setIfInBounds 1 (Value.ref g1.objs.size));have e3:=Heap.get?_update_self (Obj.mapFields (·.setIfInBounds 1 (Value.ref g1.objs.size))) e2 (Obj.isFreed_of_fields d3);have t3:((g1.push { cls:=.type "traceback",dict:=none,data:=.fields tb }).update e (Obj.mapFields (·.setIfInBounds 1 (Value.ref g1.objs.size)))).get? g1.objs.size=some { cls:=.type "traceback",dict:=none,data:=.fields tb } :=
  (Heap.get?_update_other _ _ (Ne.symm ne)).trans (Heap.get?_push_size g1 rfl)
 unfold setFlight;refine wpAny_bind (wpAny_field e3 d3 (x:=.ref g1.objs.size) (by simp[hsz]) ?_);rw[if_pos (show(Value.ref g1.objs.size != Value.none)=true by simp)];refine wpAny_setField t3 rfl tbz (k _ ?_ ?_)
 ·have kp:∀b o,b≠e->g1.get? b=some o->(((g1.push { cls:=.type "traceback",dict:=none,data:=.fields tb }).update e (Obj.mapFields (·.setIfInBounds 1 (Value.ref g1.objs.size)))).update g1.objs.size (Obj.mapFields (·.setIfInBounds 3 ((none:Option Addr).elim Value.none λf=>rawInt f)))).get? b=some o:=λb o nb hb=>by
   rw[Heap.get?_update_other _ _ (Nat.ne_of_gt (Heap.lt_size hb)),Heap.get?_update_other _ _ (Ne.symm nb)];exact Heap.get?_push_of_some _ hb
  refine⟨λb o hb nb nf=>kp b o nb ((so.2.1 b nf).trans hb),λb o hb nb=>?_⟩;obtain⟨sl,hs⟩:=so.2.2 b o hb;exact⟨sl,kp b _ nb hs⟩
 ·refine⟨_,_,g1.objs.size,_,_,(Heap.get?_update_other _ _ ne).trans e3,⟨Obj.cls_mapFields _ _,zj6 _ _⟩,d3,by simp[hsz],ne,Heap.get?_update_self _ t3 (Obj.isFreed_of_fields (Obj.data_mapFields rfl _)),Obj.data_mapFields rfl _,?_⟩;simp[tbz]
theorem zpj{cls:Value}{od:Option Addr}(hfr:A.frames=some (env::outer))(hl:s.heap.FunFrames base (env::outer))(hf:env.frame=some L)(hy:zrl s.heap e cls od)
  (k:∀h',Sl (frs (env::outer)) e s.heap h'->Fly h' e cls od->Q () { s with heap:=h' }) :
  wpAny M A (noteFrame (.ref e) env) (λ_ s'=>wpAny M A (setFlight (.ref e) none) Q E s') E s:=by
 unfold noteFrame;simp only[hf];rcases hy with⟨oe,vs,T,oT,ts,he,⟨rfl,rfl⟩,hd,h1,nT,hT,dT,h3⟩ |⟨oe,vs,he,⟨rfl,rfl⟩,hd,h1⟩
 ·refine wpAny_bind (wpAny_field he hd h1 ?_);rw[if_pos (show(Value.ref T != Value.none)=true by simp)];refine wpAny_bind (wpAny_field hT dT h3 ?_);rw[if_neg (show ¬ ((Value.none == rawInt L)=true) by simp[rawInt])];refine wpAny_bind (wpAny_setField hT dT (Array.getElem?_eq_some_iff.mp h3).1 ?_);have sm:=zao hT dT h3;refine zcg hfr (hl.of_keeps λb o hb _=>⟨o,(sm b).trans hb,rfl⟩) hf ((sm e).trans he) hd (Array.getElem?_eq_some_iff.mp h1).1 λh' S F=>k h' ⟨λb o hb=>S.keep b o ((sm b).trans hb),λb o hb=>S.slot b o ((sm b).trans hb)⟩ F
 ·refine wpAny_bind (wpAny_field he hd h1 ?_);rw[if_neg (by decide)];exact zcg hfr hl hf he hd (Array.getElem?_eq_some_iff.mp h1).1 k
theorem zrm{cls:Value}{od:Option Addr}(hfr:A.frames=some (env::outer))(hl:s.heap.FunFrames base (env::outer))(hf:env.frame=some L)(hy:zrl s.heap e cls od)
  (k:∀h',Sl (frs (env::outer)) e s.heap h'->Fly h' e cls od->Q () { s with heap:=h' }):wpAny M A (leaving env (.ref e)) Q E s:=by
 unfold leaving;exact wpAny_bind (zpj hfr hl hf hy k)
theorem zs5{cls:Value}{od:Option Addr}(hy:Fly s.heap e cls od)(k:∀h',(∀b,h'.get? b=s.heap.get? b)->Q () { s with heap:=h' }):wpAny M A (setFlight (.ref e) none) Q E s:=by
 obtain⟨oe,vs,T,oT,ts,he,_,hd,h1,nT,hT,dT,h3⟩:=hy;unfold setFlight;refine wpAny_bind (wpAny_field he hd h1 ?_);rw[if_pos (show(Value.ref T != Value.none)=true by simp)];exact wpAny_setField hT dT (Array.getElem?_eq_some_iff.mp h3).1 (k _ (zao hT dT h3))
end
def CXk(P:Program)(w:World):CXT:=λouter H s E e s'=>∃a C od H',e=.ref a/\s'.os=s.os/\AllBare s'.gens/\Un (frs outer) [] H H' s.heap s'.heap/\HOk P w H' s'.heap /\
 s.heap.get? a=none/\H' a=none/\Fly s'.heap a (.ref C) od/\E (.ref C) od H'
section
variable {fs fs':List Addr}{H H1:Hp}{h h1 h2:Heap}{a:Addr}{P:Program}{w:World}
theorem Un.sl(u:Un fs [] H H1 h h1)(S:Sl fs' a h1 h2)(hf:∀b o,b∈fs'->h.get? b=some o->b∈fs)(ha:h.get? a=none):Un fs [] H H1 h h2 where
 keep:=λb o e n hb hx=>S.keep b o (u.keep b o e n hb hx) (λz=>by rw[z,ha]at e;cases e) λz=>hb (hf b o z e)
 slot:=λb o e n hb hx=>by
  obtain⟨sl,e1⟩:=u.slot b o e n hb hx;obtain⟨sl',e2⟩:=S.slot b _ e1 λz=>by rw[z,ha]at e;cases e
  exact⟨sl',e2⟩
 free:=u.free
 there:=λb o e hx=>by
  obtain⟨o',e1⟩:=u.there b o e hx;obtain⟨sl,e2⟩:=S.slot b _ e1 λz=>by rw[z,ha]at e;cases e
  exact⟨_,e2⟩
 tups:=u.tups
 frzs:=u.frzs
 tbls:=u.tbls
theorem HOk.sl(hok:HOk P w H1 h1)(S:Sl fs' a h1 h2)(hf:∀b∈fs',H1 b=none)(ha:H1 a=none):HOk P w H1 h2:=λb o e=>by
 have ne:∀c u,H1 c=some u->c≠a/\c∉fs':=λc u q=>⟨λz=>(by rw[z,ha]at q;cases q),λz=>by rw[hf c z]at q;cases q⟩
 refine(hok b o e).stay (λc u hc q=>?_) (λ_ q=>q) λ_ _ q=>q;rcases hc with rfl|hc
 ·exact S.keep c u q (ne c o e).1 (ne c o e).2
 ·exact S.keep c u q (ne c _ hc).1 (ne c _ hc).2
end
theorem zmd{P:Program}{w:World}{K:PySem.W.Frag}{mg:Str->Option Value}{base:Heap}{N:List Str}{qual:Str}{scope:Scope}{f:Addr}{cd:Value}{A:Around}{outer:List Env}{s s1:Shared}{H H1:Hp}{E:XK}{pins:List (Addr×Obj)}{σ:St}{a C:Addr}{od:Option Addr}
  (I:Inv (xn (CXk P w) P w K mg base N qual scope f cd A outer s H E) pins σ H1 s1) (hy:zrl s1.heap a (.ref C) od) (hn:s.heap.get? a=none) (hf:H1 a=none) (hE:E (.ref C) od H1) :
  (xn (CXk P w) P w K mg base N qual scope f cd A outer s H E).xe (.ref a) s1:=by
 refine zrm (base:=base) (outer:=outer) I.ok.frames I.stack rfl hy λh' S F=>?_;refine⟨a,C,od,H1,rfl,I.os,I.bare,Un.sl (show Un (frs outer) [] H H1 s.heap s1.heap from I.base) S (λb o hb e=>?_) hn,HOk.sl I.hok S (λb hb=>I.stkFree b hb) hf,hn,hf,F,hE⟩;rcases List.mem_cons.mp (I.stkSub b hb) with q|q
 ·rw[q]at e;exact absurd (Nat.lt_of_lt_of_le (Heap.lt_size e) I.ok.above) (Nat.lt_irrefl _)
 ·exact q
theorem zrn{K:PySem.W.Frag}{h:Heap}{C:Addr}{bmB:List Value}{newId:String}(X:K.In h)(q:PySem.W.excIn K C bmB newId=true):
  ∃nm qn N bs bm hd sn sub ab col dd k0 k1 k2 k3 k5 mN,h.get? C=some (excClassObj nm qn C N bs bm hd sn sub ab col dd k0 k1 k2 k3 k5 newId)/\h.Ns N mN/\mN "__init__" = none/\OwnTail h bmB bm:=by
 unfold PySem.W.excIn at q
 split at q
 ·next dd cd sl ho=>
  split at q
  ·next C' bm k0 k1 k2 k3 n k5 hm hs=>
   simp only[Bool.and_eq_true,beq_iff_eq,Bool.not_eq_true']at q;obtain⟨⟨⟨⟨⟨rfl,rfl⟩,z1⟩,z2⟩,z3⟩,z4⟩:=q;obtain⟨nm,bs,mro,ns,qn,hd,sn,sub,ab,col,del⟩:=cd;obtain⟨l⟩:=sl;dsimp only at hm z1 z3 z4 hs;subst hm z1 hs;exact⟨nm,qn,ns,bs,bm,hd,sn,sub,ab,col,dd,k0,k1,k2,k3,k5,_,X _ _ ho,.of_isNs (PySem.W.isNs_of_in X z3),PySem.W.nsMap_none_of_in X z3 z4,PySem.W.tail_of_in X z2⟩
  ·cases q
 ·cases q
theorem ObjOk.ex{P:Program}{w:World}{H:Hp}{h:Heap}{a:Addr}{o:HO}(x:ObjOk P w H h a o):∃u,h.get? a=some u:=by
 cases o with
 |lst xs=>obtain⟨_,_,_,_,e⟩:=x;exact⟨_,e⟩
 |tup xs=>obtain⟨_,_,_,o,e,_⟩:=x;exact⟨_,e⟩
 |dK kvs=>obtain⟨_,_,_,_,o,_,_,e,_⟩:=x;exact⟨_,e⟩
 |dT kvs=>obtain⟨_,_,_,_,o,_,_,e,_⟩:=x;exact⟨_,e⟩
 |set S n=>obtain⟨o,_,_,_,e,_⟩:=x;exact⟨_,e⟩
 |ins C dx fs=>obtain⟨_,_,_,e,_⟩:=x;exact⟨_,e⟩
 |own y=>exact x
 |xd fs=>obtain⟨_,⟨_,_,_,e,_⟩,_⟩:=x;exact⟨_,e⟩
 |rng lo hi=>obtain⟨_,_,_,e⟩:=x;exact⟨_,e⟩
 |frz ob u=>exact⟨_,x.1⟩
 |tbl ps=>obtain⟨_,_,_,_,e,_⟩:=x;exact⟨_,e⟩
 |met f y=>exact⟨_,x⟩
 |ext φ=>exact x.2.1
theorem zro{P:Program}{w:World}{K:PySem.W.Frag}{mg:Str->Option Value}{base:Heap}{N:List Str}{qual:Str}{scope:Scope}{f:Addr}{cd:Value}{A:Around}{outer:List Env}{s s1:Shared}{H H1:Hp}{E:XK}{pins:List (Addr×Obj)}{σ:St}{C:Addr}{x:Str}{np cpos pos:Pos}{Q:Flow->Shared->Prop}
  (I:Inv (xn (CXk P w) P w K mg base N qual scope f cd A outer s H E) pins σ H1 s1) (hh:A.handled=none) (hg:Gl (xn (CXk P w) P w K mg base N qual scope f cd A outer s H E) x) (hm:mg x=some (.ref C))
  (q:PySem.W.excIn K C [.type "ValueError",.type "Exception",.type "BaseException",.type "object"] "ValueError.__new__" = true) (hE:E (.ref C) none H1) (hdb:(x ==("__debug__" : Str))=false:=by decide) :
  wpAny (model P w) (A.deeper (envOfC qual scope s.heap.objs.size f cd)) (exec (.Raise (some (.Call (.Name x np) [] [] cpos)) none pos) (envOfC qual scope s.heap.objs.size f cd)) Q (xn (CXk P w) P w K mg base N qual scope f cd A outer s H E).xe s1:=by
 obtain⟨nm,qn,Nn,bs,bm,hd,sn,sub,ab,col,dd,k0,k1,k2,k3,k5,mN,hC,hN,hni,T⟩:=zrn I.kIn q;refine wpAny_Raise_call_subU (C:=C) (nm:=nm) (q:=qn) (N:=Nn) (bs:=bs) (bm:=bm) (hdct:=hd) (sn:=sn) (sub:=sub) (ab:=ab) (col:=col) (dd:=dd) (k0:=k0) (k1:=k1) (k2:=k2) (k3:=k3) (k5:=k5) (newId := "ValueError.__new__")
  PySem.F.excBase_ValueError rfl PySem.F.excBase_ValueError (mN:=mN) (T.hasType rfl) hh rfl hni (v0 I hg hm ⟨rfl,?_⟩ hdb)
 refine evalArgs_empty ⟨rfl,Nat.zero_le _,hC,hN,T,λh' e mk=>?_⟩;have J:=I.kept (t':=s1.toks) mk.keeps;obtain⟨t,he,_,_⟩:=mk.there;have ne:∀b u,H1 b=some u->b≠e:=λb u z q=>by
  have:=mk.new;rw[<-q]at this;obtain⟨o,ho⟩:=(I.hok b u z).ex;rw[ho]at this
  cases this
 refine zmd J (.inr ⟨_,_,he,⟨rfl,rfl⟩,rfl,rfl⟩) ?_ ?_ hE
 ·cases z:s.heap.get? e with
  |none=>rfl
  |some o=>
   obtain⟨o',e'⟩:=I.base.there e o z (by intro y;cases y);rw[mk.new]at e'
   cases e'
 ·cases z:H1 e with
  |none=>rfl
  |some u=>exact absurd rfl (ne e u z)
structure Room0(k:Nat)(A:Around):Prop where
 dp:A.depth+3 * k+5<recursionLimit
 un:A.units+16 * k+200<cLine
 gd:A.guards=some []
theorem Room.r0{k:Nat}{A:Around}(r:Room k A):Room0 k A:=⟨r.dp,r.un,r.gd⟩
theorem Room0.mono{j k:Nat}{A:Around}(r:Room0 k A)(h:j<=k):Room0 j A:=⟨by have:=r.dp;omega,by have:=r.un;omega,r.gd⟩
theorem Room0.deeper{k:Nat}{A:Around}(r:Room0 (k+1) A)(env:Env):Room0 k (A.deeper env) :=
 ⟨by have:=r.dp;show A.depth+1+3 * k+5<_;omega,by have:=r.un;show A.units+3+16 * k+200<_;omega,r.gd⟩
theorem Room0.mark{k:Nat}{A:Around}(r:Room0 k A)(e:Option Value):Room0 k (A.mark e):=⟨r.dp,r.un,r.gd⟩
theorem Room0.units{k:Nat}{A:Around}(r:Room0 k A):A.units+64<cLine:=by have:=r.un;omega
def Cx.held(X:Cx)(e:Value):Cx:={ X with A:=X.A.mark (some e),calm:=false,xe:=λ_ _=>False }
section
variable {X:Cx}{pins:List (Addr×Obj)}{σ:St}{H:Hp}{s:Shared}{e:Value}
theorem Inv.held(I:Inv X pins σ H s)(e:Value):Inv (X.held e) pins σ H s :=
 ⟨⟨I.ok.mod,I.ok.kind,I.ok.glob,I.ok.blt,I.ok.above,I.ok.inj,I.ok.has,I.ok.cab,(λz=>nomatch z),I.ok.frames,I.ok.stk,I.ok.exf,I.ok.bs,I.ok.bsz,I.ok.noex,I.ok.exfs,I.ok.funs,I.ok.frf⟩,I.os,I.bare,I.base,I.loc,I.cell,I.free,I.freeC,I.pin,I.hok,I.len⟩
theorem Inv.unheld(ok:X.Ok)(I:Inv (X.held e) pins σ H s):Inv X pins σ H s:=⟨ok,I.os,I.bare,I.base,I.loc,I.cell,I.free,I.freeC,I.pin,I.hok,I.len⟩
theorem Inv.goes(I:Inv X pins σ H s){h':Heap}{m':Str->Option Value}(hn:h'.Ns X.env.locals m')(hs:Heap.SameBut X.env.locals s.heap h')(t:Nat):Inv X pins (List.replicate X.N.length none) H { s with heap:=h',toks:=t }:=by
 have ne:∀b o,X.s₀.heap.get? b=some o->b≠X.env.locals:=λb o e=>Nat.ne_of_lt (Nat.lt_of_lt_of_le (Heap.lt_size e) I.ok.above);refine⟨I.ok,I.os,I.bare,⟨λb o e n hb hx=>?_,λb o e n hb hx=>?_,I.base.free,λb o e hx=>?_,I.base.tups,I.base.frzs,I.base.tbls⟩,⟨m',hn,λj y v e1 e2 _=>?_⟩,λy c e=>?_,I.free,I.freeC,λp hp=>?_,λb ob e=>?_,List.length_replicate⟩
 ·exact(hs.2 b (ne b o e)).trans (I.base.keep b o e n hb hx)
 ·obtain⟨sl,e1⟩:=I.base.slot b o e n hb hx;exact⟨sl,(hs.2 b (ne b o e)).trans e1⟩
 ·obtain⟨o',e1⟩:=I.base.there b o e hx;exact⟨o',(hs.2 b (ne b o e)).trans e1⟩
 ·rw[List.getElem?_replicate]at e2
  split at e2 <;> cases e2
 ·obtain⟨w',z⟩:=I.cell y c e;exact⟨w',z.sameBut hs (I.cne y c e)⟩
 ·obtain⟨e,n,nl,nf,d⟩:=I.pin p hp;exact⟨(hs.2 p.1 nl).trans e,n,nl,nf,d⟩
 ·refine(I.hok b ob e).stay (λc u hc q=>(hs.2 c ?_).trans q) (λ_ q=>q) λ_ _ q=>q;rintro rfl;rcases hc with hc|hc
  ·rw[<-hc,I.free]at e;cases e
  ·rw[I.free]at hc;cases hc
end
structure FnH(P:Program)(w:World)(K:PySem.W.Frag)(mg:Str->Option Value)(base:Heap)(k:Nat)(f:Addr)(fd:FuncData)(ps:List Str)(sp:Sp):Prop where
 len:∀vs H Q E,sp vs H Q E->vs.length=ps.length
 run:∀(A:Around) (outer:List Env) (s:Shared) (H:Hp) (args:Args) (us:List Value) (vs:List V) (Q:VK) (E:XK),Room0 k A->Env0 P w K mg base A outer s H->BindsTo s fd args (ps.zip us)->Vals vs us->sp vs H Q E ->
  codeAny (model P w) A (.call (.ref f) args) (CR CX0 outer P w H s Q E) s
def zap(P:Program)(w:World)(K:PySem.W.Frag)(mg:Str->Option Value)(base:Heap)(k:Nat)(x:Str)(ps:List Str)(sp:Sp):Prop :=
 ∃f fd,FnH P w K mg base k f fd ps sp/\Binds K fd ps []/\PySem.W.keepIn K (.ref f)=true/\mg x=some (.ref f)
def cxH(P:Program)(w:World)(K:PySem.W.Frag)(mg:Str->Option Value)(base:Heap)(N:List Str)(qual:Str)(scope:Scope)(f:Addr)(cd:Value)(A:Around)(outer:List Env)(s:Shared)(H:Hp):Cx :=
 { xn CX0 P w K mg base N qual scope f cd A outer s H E0 with calm:=false,xe:=λ_ _=>False }
theorem zme{X:Cx}{k k':Nat}{x:Str}{ps:List Str}{sp:Sp}{e:Expr}{es:List Expr}{t:TA}{p pos:Pos}(C:zap X.prog X.w X.K X.mg X.base k x ps sp)(hr:Room0 k' X.A)(hg:Gl X x)(ha:PA X (e::es) t)(hk:k<=k')
  (hdb:(x ==("__debug__" : Str))=false) (he:starEach (e::es) X.env=(false,eval e X.env)::starEach es X.env) (hpl:(backTo pos (starEach es X.env)).any (·.1)=false):PE X (.Call (.Name x p) (e::es) [] pos) (zk5 sp [] E0 t):=by
 intro pins s σ H Q I h;obtain⟨f,fd,F,b,kp,m⟩:=C;refine wpAny_Call_Name_kw (v0 I hg m ?_ hdb);refine PySem.W.callWith_K (h₀:=X.base) I.ok.mod.kin kp (thn (ha pos pins s σ H _ I h) λus s1 ⟨vs,H1,I1,r,q⟩=>⟨I1.kIn,?_⟩) he hpl;have q':sp vs H1 Q E0:=by
  have z:sp (vs ++ []) H1 Q E0:=q;rw[List.append_nil]at z;exact z
 have hl:us.length=ps.length:=by rw[<-r.length];exact F.len _ _ _ _ q'
 have bb:BindsTo s1 fd ⟨us,[]⟩ (ps.zip us):=by
  have:=b s1 us I1.kIn (by rw[List.append_nil];exact hl);rw[List.append_nil]at this;exact this
 refine wpAny_call (codeAny_mono (F.run X.A X.stack s1 H1 ⟨us,[]⟩ us vs Q E0 (hr.mono hk) I1.env0 bb r q') λr s' hq=>?_)
 cases r with
 |error e=>exact False.elim hq
 |ok fl=>
  cases fl with
  |ret u=>exact I1.after hq
  |next=>exact False.elim hq
  |brk=>exact False.elim hq
  |cont=>exact False.elim hq
section
variable {P:Program}{w:World}{K:PySem.W.Frag}{mg:Str->Option Value}{base:Heap}
theorem Fun.dokH{x qual:Str}{st:Stmt}{f:Addr}{fd:FuncData}{N ps:List Str}{k:Nat}{sp:DSp}(F:Fun K x qual st f fd)(S:yf N ps (ze st))(len:∀ws Q,sp ws Q->ws.length=ps.length)
  (hbody:∀(cdv:Value) (A:Around) (outer:List Env) (s:Shared) (H:Hp) (ws:List W) (Q:Ret->Prop),Room0 k (A.deeper (envOfC qual (ze st) s.heap.objs.size f cdv))->sp ws Q ->
   ∃t,DSs (cxH P w K mg base N qual (ze st) f cdv A outer s H) (xa st) t/\t { nx:=λ_=>Q (.val .none),rt:=Q } (jx N ws)):FnH P w K mg base (k+1) f fd ps (y0 K sp):=by
 obtain⟨oc,od,kV,doc,pm,an,cdv,ct,osl,rfl,lk,hcd⟩:=F.ex;refine⟨λvs H Q E ⟨ws,QD,r,q,_⟩=>by rw[<-r.length];exact len ws QD q,λA outer s H args us vs Q E hr e0 hb r ⟨ws,QD,rw',q,kk⟩=>?_⟩;have hl:vs.length=ps.length:=by rw[<-rw'.length];exact len ws QD q
 have KX:K.In s.heap:=e0.mod.kin.keeps λb o e=>(e0.bs b o e).1;have lim:s.heap.NoLimit:=e0.mod.nolimit.keeps λb o e=>(e0.bs b o e).1;have hkind:∀y∈ps.zip us,(ze st).names.lookup y.1=some .local\/((ze st).names.lookup y.1=some .cell/\((cellsFrom (s.heap.objs.size+1) (ze st).names []).lookup y.1).isSome=true):=λ⟨n,v⟩ hy=>by
  rcases S.par n (List.of_mem_zip hy).1 with q|q
  ·exact .inl q
  ·exact .inr ⟨q,PySem.W.cellsFrom_some _ _ _ (.inl q)⟩
 refine codeAny_call_function (by have:=hr.dp;omega) (KX _ _ lk) rfl S.co S.gen rfl (PySem.W.codeRec_of KX hcd) (hb _ _ _ _ ?_);refine wpAny_newFunctionEnv_cells S.kind hkind λenv he s1 x=>?_;subst he;refine⟨lim.keeps x.toInCall.keep,codeAny_func ?_⟩;obtain⟨t,ht,hq⟩:=hbody cdv A outer s H ws QD (hr.deeper _) q;have e1:Env0 P w K mg base { A with handled:=none } outer s H:=⟨e0.frames,e0.mod,e0.bs,e0.bsz,e0.funs,e0.frf,e0.hok,e0.bare⟩
 have J:Inv (xn CX0 P w K mg base N qual (ze st) f cdv { A with handled:=none } outer s H E0) [] (wo N vs) H s1:=za0 S rfl e1 hl r x;have I:Inv (cxH P w K mg base N qual (ze st) f cdv A outer s H) [] (wo N vs) H s1 :=
  ⟨⟨J.ok.mod,J.ok.kind,J.ok.glob,J.ok.blt,J.ok.above,J.ok.inj,J.ok.has,J.ok.cab,(λz=>nomatch z),Around.frames_deeper e0.frames,J.ok.stk,J.ok.exf,J.ok.bs,J.ok.bsz,J.ok.noex,J.ok.exfs,J.ok.funs,J.ok.frf⟩,J.os,J.bare,J.base,J.loc,J.cell,J.free,J.freeC,J.pin,J.hok,J.len⟩
 refine wpAny_mono (ht.run [] s1 (wo N vs) H H _ _ I (DOk.begin rw' N) hq) (λfl s' hs=>?_) λe s' hs=>False.elim hs;have fin:∀{σ':St}{H':Hp}{v:V}{u:Value},Inv (cxH P w K mg base N qual (ze st) f cdv A outer s H) [] σ' H' s'->RelV v u->Q v H'->CE outer P w H s Q u s' :=
  λ{σ' H' v u} J rv q=>⟨v,H',J.os,J.bare,J.base,J.hok,rv,q⟩
 cases fl with
 |ret u=>
  obtain⟨v,σ',H',r',J,rv,sm,rp,q'⟩:=hs;exact fin J rv (kk v H' r' sm rp q')
 |next=>
  obtain⟨σ',H',σD',J,ok,_,q'⟩:=hs;exact fin (v:=V.non) (u:=Value.none) J rfl (kk .non H' (.val .none) ok.same .non q')
 |brk=>obtain⟨_,_,_,_,_,_,q'⟩:=hs;exact False.elim q'
 |cont=>obtain⟨_,_,_,_,_,_,q'⟩:=hs;exact False.elim q'
end
abbrev EX:=Str×List (Str×Int)->Prop
abbrev zbp:=List W->(Ret->Prop)->EX->Prop
def XE(K:PySem.W.Frag)(H:Hp)(ex:EX):XK:=λc od H'=>∃x C,c=.ref C/\PySem.W.nsIn K mainGlobals x.1=some (some (.ref C))/\Same H H'/\((x.2 = []/\od=none)\/∃d,od=some d/\H' d=some (.xd (x.2.map λp=>(p.1,V.int p.2))))/\ex x
def xu(K:PySem.W.Frag)(sp:zbp):Sp:=λvs H Q E=>∃ws QD ex,RepWs K H ws vs/\sp ws QD ex/\(∀v H' r,Same H H'->zag K H H' r v->QD r->Q v H')/\∀c od H',XE K H ex c od H'->E c od H'
def xl(P:Program)(w:World)(K:PySem.W.Frag)(mg:Str->Option Value)(base:Heap)(k:Nat)(x:Str)(ps:List Str)(sp:Sp):Prop :=
 ∃f fd,FnOk P w K mg base (CXk P w) k f fd ps sp/\Binds K fd ps []/\PySem.W.keepIn K (.ref f)=true/\mg x=some (.ref f)
structure DSX(X:Cx)(st:Stmt)(t:DTS):Prop where
 run:∀(pins:List (Addr×Obj)) (s:Shared) (σ:St) (H:Hp) (σD:DSt) (Dn:x4),Inv X pins σ H s->DOk X.K X.H₀ H σD σ->t Dn σD->wpAny (model X.prog X.w) X.A (exec st X.env) (DSP X pins X.H₀ H Dn) X.xe s
structure DSXs(X:Cx)(st:List Stmt)(t:DTS):Prop where
 run:∀(pins:List (Addr×Obj)) (s:Shared) (σ:St) (H:Hp) (σD:DSt) (Dn:x4),Inv X pins σ H s->DOk X.K X.H₀ H σD σ->t Dn σD->wpAny (model X.prog X.w) X.A (execs st X.env) (DSP X pins X.H₀ H Dn) X.xe s
theorem DSP.unnox{X:Cx}{pins:List (Addr×Obj)}{H₀ H:Hp}{Dn:x4}{f:Flow}{s':Shared}(h:DSP X.nox pins H₀ H Dn f s'):DSP X pins H₀ H Dn f s':=by
 cases f with
 |next=>obtain⟨a,b,c,I,r⟩:=h;exact⟨a,b,c,I.unwish,r⟩
 |brk=>obtain⟨a,b,c,I,r⟩:=h;exact⟨a,b,c,I.unwish,r⟩
 |cont=>obtain⟨a,b,c,I,r⟩:=h;exact⟨a,b,c,I.unwish,r⟩
 |ret u=>obtain⟨v,a,b,q,I,r⟩:=h;exact⟨v,a,b,q,I.unwish,r⟩
section
variable {X:Cx}{st:Stmt}{sts rest:List Stmt}{t u:DTS}{pos:Pos}
theorem w6(h:DS X.nox st t):DSX X st t:=⟨λpins s σ H σD Dn I ok q=>wpAny_mono (h.run pins s σ H X.H₀ σD Dn (I.wish _) ok q) (λ_ _ z=>z.unnox) λ_ _ z=>False.elim z⟩
theorem zoi(h:DSs X.nox sts t):DSXs X sts t:=⟨λpins s σ H σD Dn I ok q=>wpAny_mono (h.run pins s σ H X.H₀ σD Dn (I.wish _) ok q) (λ_ _ z=>z.unnox) λ_ _ z=>False.elim z⟩
theorem zch:DSXs X [] zif:=zoi yx
theorem xf(h1:DSX X st t)(h2:DSXs X rest u):DSXs X (st::rest) (zly t u):=⟨λpins s σ H σD Dn I ok q=>by
 refine wpAny_execs_cons (thn (h1.run pins s σ H σD { Dn with nx:=u Dn } I ok q) λf s1 z=>?_)
 cases f with
 |next=>
  obtain⟨σ1,H1,σD1,I1,ok1,p1,q1⟩:=z;exact thn (h2.run pins s1 σ1 H1 σD1 Dn I1 ok1 q1) λ_ _ w'=>w'.back p1
 |brk=>exact z
 |cont=>exact z
 |ret v=>exact z⟩
theorem xy(h1:DSX X st t):DSXs X [st] t:=⟨λpins s σ H σD Dn I ok q=>by
 refine wpAny_execs_cons (thn (h1.run pins s σ H σD Dn I ok q) λf s1 z=>?_)
 cases f with
 |next=>exact wpAny_execs_nil z
 |brk=>exact z
 |cont=>exact z
 |ret v=>exact z⟩
theorem zhi{c:Expr}{a b:List Stmt}{tc:DTT}(hc:DT X.nox c tc)(ha:DSXs X a t)(hb:DSXs X b u):DSX X (.If c a b pos) (dIf tc t u):=⟨λpins s σ H σD Dn I ok q=>by
 refine wpAny_If (wpAny_mono (hc.run pins s σ H X.H₀ σD _ (I.wish _) ok q) (λd s1 ⟨H1,I1,sm,q1⟩=>?_) λ_ _ z=>False.elim z)
 cases d with
 |true=>rw[if_pos rfl]at q1;exact thn (ha.run pins s1 σ H1 σD Dn I1.unwish (ok.after sm) q1) λ_ _ z=>z.back sm.pers
 |false=>rw[if_neg Bool.false_ne_true]at q1;exact thn (hb.run pins s1 σ H1 σD Dn I1.unwish (ok.after sm) q1) λ_ _ z=>z.back sm.pers⟩
end
section
variable {P:Program}{w:World}{K:PySem.W.Frag}{mg:Str->Option Value}{base:Heap}{N:List Str}{qual:Str}{scope:Scope}{f:Addr}{cd:Value}{A:Around}{outer:List Env}{s:Shared}{H:Hp}{E:XK}
def zhj(ex:EX)(x:Str):DTS:=λ_ _=>ex (x,[])
theorem zj7{ex:EX}{x:Str}{C:Addr}{np cpos pos:Pos}(hE:∀c od H',XE K H ex c od H'->E c od H')(hh:A.handled=none)(hg:Gl (xn (CXk P w) P w K mg base N qual scope f cd A outer s H E) x)(hm:mg x=some (.ref C))(hn:PySem.W.nsIn K mainGlobals x=some (some (.ref C)))
  (q:PySem.W.excIn K C [.type "ValueError",.type "Exception",.type "BaseException",.type "object"] "ValueError.__new__" = true) (hdb:(x ==("__debug__" : Str))=false:=by decide) :
  DSX (xn (CXk P w) P w K mg base N qual scope f cd A outer s H E) (.Raise (some (.Call (.Name x np) [] [] cpos)) none pos) (zhj ex x) :=
 ⟨λpins s1 σ H1 σD Dn I ok qq=>zro I hh hg hm q (hE _ _ _ ⟨(x,[]),C,rfl,hn,ok.same,.inl ⟨rfl,rfl⟩,qq⟩) hdb⟩
end
section
variable {P:Program}{w:World}{K:PySem.W.Frag}{mg:Str->Option Value}{base:Heap}
theorem Fun.dokX{x qual:Str}{st:Stmt}{f:Addr}{fd:FuncData}{N ps:List Str}{k:Nat}{sp:zbp}(F:Fun K x qual st f fd)(S:yf N ps (ze st))(len:∀ws Q ex,sp ws Q ex->ws.length=ps.length)
  (hbody:∀(cdv:Value) (A:Around) (outer:List Env) (s:Shared) (H:Hp) (ws:List W) (Q:Ret->Prop) (ex:EX) (E:XK),Room k (A.deeper (envOfC qual (ze st) s.heap.objs.size f cdv))->sp ws Q ex->(∀c od H',XE K H ex c od H'->E c od H') ->
   ∃t,DSXs (xn (CXk P w) P w K mg base N qual (ze st) f cdv A outer s H E) (xa st) t/\t { nx:=λ_=>Q (.val .none),rt:=Q } (jx N ws)):FnOk P w K mg base (CXk P w) (k+1) f fd ps (xu K sp):=by
 obtain⟨oc,od,kV,doc,pm,an,cdv,ct,osl,rfl,lk,hcd⟩:=F.ex;refine zo6 lk hcd S (λvs H Q E ⟨ws,QD,ex,r,q,_⟩=>by rw[<-r.length];exact len ws QD ex q) λA outer s H vs Q E hr ⟨ws,QD,ex,r,q,kk,ke⟩=>?_;obtain⟨t,ht,hq⟩:=hbody cdv A outer s H ws QD ex E hr q ke;refine⟨λD σ H1=>∃σD Dn,DOk K H H1 σD σ/\t Dn σD/\(∀σ' H' σD',DOk K H H' σD' σ'->Dn.nx σD'->D.nx σ' H')/\(∀v H' r,Same H H'->zag K H H' r v->Dn.rt r->D.rt v H')/\(∀σD',Dn.bk σD'->False)/\∀σD',Dn.ct σD'->False,?_,?_⟩
 ·intro pins s1 σ H1 D I ⟨σD,Dn,ok,q1,k1,k2,k3,k4⟩;refine thn (ht.run pins s1 σ H1 σD Dn I ok q1) λfl s' z=>?_
  cases fl with
  |next=>obtain⟨a,b,c,e1,e2,e3,e4⟩:=z;exact⟨a,b,e1,k1 a b c e2 e4⟩
  |brk=>obtain⟨a,b,c,e1,e2,e3,e4⟩:=z;exact(k3 _ e4).elim
  |cont=>obtain⟨a,b,c,e1,e2,e3,e4⟩:=z;exact(k4 _ e4).elim
  |ret u=>obtain⟨v,a,b,r,e1,e2,e3,e4,e5⟩:=z;exact⟨v,a,b,e1,e2,k2 v b r e3 e4 e5⟩
 ·exact⟨_,_,DOk.begin r N,hq,λσ' H' σD' ok' q'=>kk .non H' (.val .none) ok'.same .non q',λv H' r' sm rp qr=>kk v H' r' sm rp qr,λ_ z=>z.elim,λ_ z=>z.elim⟩
end
theorem zj8{K:PySem.W.Frag}{M:Model}{A:Around}{E:Value->Shared->Prop}{s:Shared}{C CK a:Addr}{oe:Obj}{Q:Bool->Shared->Prop}(X:K.In s.heap)(he:s.heap.get? a=some oe)(hc:oe.cls=.ref C)
  (e:PySem.W.kitCls K (.ref C) (.ref CK)=some true) (b:PySem.W.subIn K (.ref CK) (.type "BaseException")=some true) (q:Q true s):wpAny M A (excMatches (.ref a) (.ref CK)) Q E s:=by
 obtain⟨L1,L2,L3⟩:=PySem.W.kit_cls (M:=M) X e;have L4:=PySem.W.looks_subIn (M:=M) X b;have Lt:PySem.W.Looks M s.heap (typeOf (.ref a)) (.ref C):=hc ▸ (PySem.W.Looks.ld he).andThen .now;have Li:PySem.W.Looks M s.heap (isInstance (.ref CK) (.type "tuple")) false:=L1.andThen (PySem.W.Looks.of_pure tc_notTuple);have Le:PySem.W.Looks M s.heap (isExcClass (.ref CK)) true:=L2.andThen L4;unfold excMatches;refine wpAny_bind (Li.here ?_);refine wpAny_bind (wpAny_pure ?_);simp only[List.forIn_cons,List.forIn_nil];refine wpAny_bind (wpAny_bind (wpAny_bind (Le.here ?_)));refine wpAny_pure ?_;refine wpAny_pure ?_;refine wpAny_bind (Lt.here ?_);refine wpAny_bind (wpAny_bind (wpAny_bind (L3.here ?_)));exact wpAny_pure (wpAny_pure (wpAny_pure q))
structure zoj(K:PySem.W.Frag)(CK C:Addr):Prop where
 sub:PySem.W.kitCls K (.ref C) (.ref CK)=some true
 bas:PySem.W.subIn K (.ref CK) (.type "BaseException")=some true
theorem zok{P:Program}{w:World}{H:Hp}{h:Heap}{a C:Addr}{od:Option Addr}(hy:Fly h a (.ref C) od):ObjOk P w H h a (za4 C od a):=by
 obtain⟨oe,vs,_,_,_,he,⟨h1,h2⟩,hd,_⟩:=hy;exact⟨⟨oe,he,h1,h2,vs,hd⟩,⟨oe,he⟩,λ_ _ ⟨o,e1,r⟩ k=>⟨o,k o e1,r⟩⟩
section
variable {X:Cx}{pins:List (Addr×Obj)}{σ:St}{H H₀:Hp}{s s':Shared}{E:XK}{e:Value}
theorem zrp{Q:Flow->Shared->Prop}{E':Value->Shared->Prop}{n kn:Str}{i:Nat}{b0:Stmt}{suite:List Stmt}{kp hpos:Pos}{CK:Addr}(I:Inv X pins σ H s)(hX:X.stack=X.env::X.outer)(hF:X.env.frame=some X.env.locals)(hx:CXk X.prog X.w X.stack H s E e s')
  (hg:Gl X kn) (hm:X.mg kn=some (.ref CK)) (hdb:(kn ==("__debug__" : Str))=false) (hN:X.N.Nodup) (hi:X.N[i]?=some n) (hl:X.env.scope.names.lookup n=some .local)
  (hE:∀C od H',E (.ref C) od H'->zoj X.K CK C/\∀a,H' a=none->∀s2,Inv (X.held (.ref a)) pins (σ.set i (some (.ref a))) (upd H' a (za4 C od a)) s2 ->
   wpAny (model X.prog X.w) (X.held (.ref a)).A (execs (b0::suite) X.env) (λf s3=>∃σ3 H3,Inv X pins σ3 H3 s3/\∀s4,Inv X pins (List.replicate X.N.length none) H3 s4->Q f s4) (λ_ _=>False) s2) :
  wpAny (model X.prog X.w) X.A (noteFrame e X.env) (λ_ s2=>wpAny (model X.prog X.w) X.A (setFlight e none) (λ_ s3=>wpAny (model X.prog X.w) X.A (handleBy e X.env [.ExceptHandler (some (.Name kn kp)) (some n) (b0::suite) hpos]) Q E' s3) E' s2) E' s':=by
 obtain⟨a,C,od,H',rfl,os,bare,un,hok,new,fr,fly,hE'⟩:=hx;obtain⟨XC,hsuite⟩:=hE C od H' hE';have J:Inv X pins σ H' s':=I.call' os un hok bare (λb hb=>nomatch hb);refine zpj (base:=X.base) (outer:=X.outer) (by rw[I.ok.frames,hX]) (by rw[<-hX];exact J.stack) hF (.inl fly) λh2 S F2=>?_;rw[<-hX]at S;have hok2:HOk X.prog X.w H' h2:=hok.sl S J.stkFree fr;have un2:=un.sl S (λb o hb _=>hb) new;have ne:∀b u,H' b=some u->b≠a:=λb u q z=>by rw[z,fr]at q;cases q
 have up:∀b u,H' b=some u->upd H' a (za4 C od a) b=some u:=λb u q=>by rw[zh (ne b u q)];exact q
 have un3:Un (frs X.stack) [] H (upd H' a (za4 C od a)) s.heap h2:=⟨un2.keep,un2.slot,λb o e n hx=>by
   rw[zh (λz=>by rw[z,new]at e;cases e)];exact un2.free b o e n hx,un2.there,λb xs e=>up _ _ (un2.tups b xs e),λb o u e=>up _ _ (un2.frzs b o u e),λb ps e=>by
   obtain⟨m,q⟩:=un2.tbls b ps e;exact⟨m,up _ _ q⟩⟩
 have hok3:HOk X.prog X.w (upd H' a (za4 C od a)) h2:=λb u q=>by
  by_cases z:b=a
  ·subst z;rw[zm]at q
   cases q;exact zok F2
  ·rw[zh z]at q;exact(hok2 b u q).stay (λ_ _ _ q=>q) (λc q=>up _ _ q) (λc xs q=>up _ _ q) λc _ _ q=>up _ _ q
 have I2:Inv X pins σ (upd H' a (za4 C od a)) { s' with heap:=h2 }:=I.call' (s':={ s' with heap:=h2 }) os un3 hok3 bare (λb hb=>nomatch hb);have I3:=I2.held (.ref a);refine wpAny_handleBy_cons (codeAny_handlers_test (v0 I3 hg hm ?_ hdb)) (by intro q;cases q);obtain⟨oe,vs,_,_,_,he,⟨hc,_⟩,_⟩:=id F2;refine zj8 (s:={ s' with heap:=h2 }) I2.kIn he hc XC.sub XC.bas ?_;refine codeAny_handlers_suite_as (zs5 (s:={ s' with heap:=h2 }) F2 λh3 same=>?_);have I4:=I3.kept (h':=h3) (t':=s'.toks) λb u q=>by rw[same];exact q
 refine kc (X:=X.held (.ref a)) I4 hN hi (.inl hl) (v:=.ref a) rfl (λs4 I5=>?_) (.inr hl);refine wpAny_mono (hsuite a fr s4 I5) (λf s5 ⟨σ5,H5,I6,k⟩=>?_) λ_ _ z=>False.elim z;obtain⟨m,hn,_⟩:=I6.loc;exact wpAny_nameGoes hl hn (by rw[I.ok.kind];rfl) λh6 m6 hn6 hs6=>k _ (I6.goes hn6 hs6 _)
end
section
variable {X:Cx}
end
end L2
namespace L2
open PySem PySem.Spec PyProof.Rows PySem.W
section
variable {prog:Program}{w:World}{A:Around}{E:Value->Shared->Prop}{s:Shared}{K:Frag}{x C:Addr}{ox:Obj}{od:Option Obj}
theorem zdr{nameV:Value}{Q:Unit->Shared->Prop}{M:Model}(X:K.In s.heap)(I:InstAt s.heap x ox C od)(hb:mroIn K C (.type "BaseException")=some true)(q:Q () s):
  wpAny M A (checkBuiltinCall "BaseException.__getattribute__" ⟨[.ref x,nameV],[]⟩) Q E s:=by
 have hk:builtinKind "BaseException.__getattribute__" = some .slot:=by decide +kernel
 have hsplit:splitId "BaseException.__getattribute__" = some ("BaseException", "__getattribute__"):=by decide +kernel
 have L1:Looks M s.heap (isInstance (.ref x) (.type "BaseException")) true:=I.type.andThen (looks_mroIn X hb);have ha:=PySem.F.args_bexc_ga (.ref x) nameV;simp only[checkBuiltinCall,hk,hsplit];refine wpAny_bind (L1.here ?_)
 repeat (any_goals (first|assumption|wp_step))
theorem zes{tk:Tok}{R:Result->Shared->Prop}(X:K.In s.heap)(I:InstAt s.heap x ox C od)(hb:mroIn K C (.type "BaseException")=some true)
  (hf:findObj K C od "__class__" = some (.bind (.builtin "getset_descriptor.__get__") (.builtin "object.__class__"))) (hm:mroIn K C (.type "object")=some true) (q:R (.ok (.ret (.ref C))) s) :
  codeAny (model prog w) A (.call (.builtin "BaseException.__getattribute__") ⟨[.ref x,.str "__class__" tk],[]⟩) R s:=by
 refine codeAny_call_builtin PySem.F.attr_ValueError.ga.plain PySem.F.entry_bexc_ga (zdr X I hb ?_);have L0:=I.type (M:=model prog w);have L1:=looks_find (M:=model prog w) X I hf;obtain⟨hh,g,dr,t,os⟩:=s;unfold Builtin.«object.__getattribute__»
 repeat (any_goals (first|assumption|exact L0.at ‹_›|wp_step))
 refine wpAny_loadPart_at I.at_ (wpAny_pure ?_);rw[I.cls];refine wpAny_bind (L1.at ?_);unfold Builtin.ObjectAttr.bindTo
 repeat (any_goals (first|assumption|wp_step))
 exact class_get X I hm (wpAny_pure q)
theorem zj9{Q:Option Value->Shared->Prop}(X:K.In s.heap)(I:InstAt s.heap x ox C od)(hga:findIn K (.ref C) "__getattribute__" = some (some (.builtin "BaseException.__getattribute__")))(hhk:findIn K (.ref C) "__getattr__" = some none)(hb:mroIn K C (.type "BaseException")=some true)
  (hf:findObj K C od "__class__" = some (.bind (.builtin "getset_descriptor.__get__") (.builtin "object.__class__"))) (hm:mroIn K C (.type "object")=some true) (q:Q (some (.ref C)) { s with toks:=s.toks+1 }) :
  wpAny (model prog w) A (getAttr? (.ref x) "__class__") Q E s:=by
 have L0:=I.type (M:=model prog w);have L1:=looks_findIn (M:=model prog w) X hga;have L2:=looks_findIn (M:=model prog w) X hhk;obtain⟨hh,g,d,t,os⟩:=s;unfold getAttr? getAttrBy? getAttrBy;refine wpAny_bind (wpAny_mkText (wpAny_bind (wpAny_attempt (wpAny_holding (wpAny_bind (L0.at (wpAny_bind (L1.at ?_))))))));dsimp only;rw[if_neg (by rw[show(Value.builtin "BaseException.__getattribute__" == Value.builtin "object.__getattribute__")=false by decide +kernel,Bool.and_false];decide)];unfold getAttrByItsOwn hookBefore;rw[if_pos (by rfl)];refine wpAny_bind (L2.at (wpAny_bind (wpAny_attempt (wpAny_holding ?_))));unfold callGetattribute;rw[if_neg (by decide +kernel)];unfold boundAndCalled;refine wpAny_bind (wpAny_of_eq (PySem.F.attr_ValueError.ga.bind (.ref x)) ?_);refine wpAny_call (zes (s:=⟨hh,g,d,t+1,os⟩) X I hb hf hm ?_);exact handed_on rfl (wpAny_pure q)
end
structure XIs(K:Frag)(C:Addr):Prop where
 ga:findIn K (.ref C) "__getattribute__" = some (some (.builtin "BaseException.__getattribute__"))
 hk:findIn K (.ref C) "__getattr__" = some none
 bas:mroIn K C (.type "BaseException")=some true
 dct:hasDictIn K C=true
 fnd:findIn K (.ref C) "__class__" = some (some (.builtin "object.__class__"))
 spc:specialIn K (.builtin "object.__class__") "__get__" = some (some (.builtin "getset_descriptor.__get__"))
 tks:takesIn K (.builtin "object.__class__")=some true
 mro:mroIn K C (.type "object")=some true
theorem kj{K:Frag}{C:Addr}(h:hasDictIn K C=true):∃cd,clsIn K C=some cd/\∃c d sl,K.lookup C=some ⟨c,d,.cls cd,sl⟩:=by
 unfold hasDictIn at h
 cases e:clsIn K C with
 |none=>rw[e]at h;cases h
 |some cd=>
  refine⟨cd,rfl,?_⟩;unfold clsIn at e
  split at e
  ·next ho=>cases e;exact⟨_,_,_,ho⟩
  ·cases e
theorem zf5{K:Frag}{a C:Addr}(Z:XIs K C):KitX K (.ref a) (.ref C) (λh=>∃ox od,InstAt h a ox C od) where
 ty:=λM h _ ⟨ox,od,I⟩=>I.type
 it:=λM h X _=>by
  obtain⟨cd,_,c,d,sl,ho⟩:=kj Z.dct;exact(Looks.ld (X _ _ ho)).andThen .now
 ne:=λh tp dd its n sl X htp=>by
  obtain⟨cd,_,c,d,sl',ho⟩:=kj Z.dct
  cases q:(Value.ref C == Value.ref tp) with
  |false=>rfl
  |true=>
   cases beq_iff_eq.mp q;have z:=(X _ _ ho).symm.trans htp
   cases z
 ca:=λ{prog w A E Q s} X ⟨ox,od,I⟩ k=>by
  obtain⟨cd,hc,_⟩:=kj Z.dct;have hf:findObj K C od "__class__" = some (.bind (.builtin "getset_descriptor.__get__") (.builtin "object.__class__")):=by
   unfold findObj;rw[hc,Option.bind_some,Z.fnd,Option.bind_some];simp[Z.spc,Z.tks]
  exact zj9 X I Z.ga Z.hk Z.bas hf Z.mro k
section
variable {X:Cx}{pins:List (Addr×Obj)}{σ:St}{H:Hp}{s:Shared}
def XDc(H:Hp)(od:Option Addr):Prop:=od=none\/∃d fs,od=some d/\H d=some (.xd fs)
theorem XDc.of{K:Frag}{x:Str×List (Str×Int)}{od:Option Addr}(h:(x.2 = []/\od=none)\/∃d,od=some d/\H d=some (.xd (x.2.map λp=>(p.1,V.int p.2)))):XDc H od:=by
 rcases h with h |⟨d,e,h⟩
 ·exact .inl h.2
 ·exact .inr ⟨d,_,e,h⟩
theorem zf6(I:Inv X pins σ H s){a C:Addr}{od:Option Addr}(h:H a=some (za4 C od a))(hd:XDc H od):∃ox oo,InstAt s.heap a ox C oo:=by
 obtain⟨⟨oe,he,hc,hdi,vs,hf⟩,_,_⟩:=I.hok _ _ h;have hno:notCls oe=true:=by unfold notCls;rw[hf]
 rcases hd with rfl |⟨d,fs,rfl,hx⟩
 ·exact⟨oe,none,he,hc,hno,by rw[hdi];trivial⟩
 ·obtain⟨o,ho⟩:=(I.hok _ _ hx).ex;exact⟨oe,some o,he,hc,hno,by rw[hdi];exact ho⟩
def zka(i:Nat)(tab:Str->Option Bool):DTE:=λσ Q=>match σ[i]? with
 |some (some (.exc x))=>(match tab x.1 with
  |some b=>Q (.bool b)
  |none=>False)
 |_=>False
variable {e:Expr}{pos p:Pos}
theorem xm(i:Nat){x:Str}{px:Pos}{tab:Str->Option Bool}{c:Value}{cv:V}(rc:∀u,RelV cv u->u=c)(hk:∀nm b,tab nm=some b->∀C,nsIn X.K mainGlobals nm=some (some (.ref C))->XIs X.K C/\kitOne X.K (.ref C) c=some b)
  (hg:Gl X "isinstance") (hm:X.mg "isinstance" = none) (hv:bootBuiltins "isinstance" = some (.builtin "isinstance")) (h2:PE X e (tC cv)) (hN:X.N[i]?=some x:=by rfl) (hvs:Vis X.env.scope x:=by first|exact Or.inl rfl|exact Or.inr (Or.inl rfl)|exact Or.inr (Or.inr rfl))
  (hd:(x ==("__debug__" : Str))=false:=by decide) (hcd:(x ==("__classdict__" : Str))=false:=by decide)
  (he:starEach [.Name x px,e] X.env=(false,eval (.Name x px) X.env)::starEach [e] X.env:=by rfl) (he2:starEach [e] X.env=(false,eval e X.env)::starEach [] X.env:=by rfl) (hpl:(backTo pos (starEach [e] X.env)).any (·.1)=false:=by rfl) :
  DE X (.Call (.Name "isinstance" p) [.Name x px,e] [] pos) (zka i tab):=by
 have hc:wy X (.builtin "isinstance") (λvs H Q=>∃nm b a C od,vs = [.ref a,cv]/\tab nm=some b/\nsIn X.K mainGlobals nm=some (some (.ref C))/\H a=some (za4 C od a)/\XDc H od/\Q (.bl b) H):=λpins s σ H xs us Q I rv ⟨nm,b,a,C,od,e,ht,hn,ha,hd,q⟩=>by
  subst e;obtain⟨u,w,rfl,r1,r2⟩:=rv.two
  cases r1
  cases rc _ r2;obtain⟨Z,ek⟩:=hk nm b ht C hn;exact kia_one (zf5 Z) I.kIn (zf6 I ha hd) ek (λz=>nomatch z) λtk=>⟨.bl b,H,I.tok tk,rfl,q⟩
 refine DE.of (vm hc hg hm hv (yo (x5 (i:=i) hN hvs hd hcd) (yo h2 xp he2) he) (by decide) (by decide) he hpl) λσ H H₀ σD QD ok q=>?_;unfold zka at q
 split at q
 ·next x' e'=>
  obtain⟨v,e1,a,C,od,rfl,hn,ha,hf⟩:=ok.exc e'
  split at q
  ·next b ht=>exact⟨.ref a,e1,x'.1,b,a,C,od,rfl,ht,hn,ha,XDc.of (K:=X.K) hf,.bool b,Same.refl _,.bl,q⟩
  ·exact q.elim
 ·exact q.elim
theorem zis(i:Nat){x:Str}{px tp:Pos}{k:Nat}{es:List Expr}{tab:Str->Option Bool}{cs:List Value}{cvs:List V}(rc:∀us,Vals cvs us->us=cs)(hk:∀nm b,tab nm=some b->∀C,nsIn X.K mainGlobals nm=some (some (.ref C))->XIs X.K C/\kitAny X.K (.ref C) cs=some b)
  (hg:Gl X "isinstance") (hm:X.mg "isinstance" = none) (hv:bootBuiltins "isinstance" = some (.builtin "isinstance")) (h2:PA X es (λ_ H Q=>Q cvs H)) (hz:cvs.length<=sizeLine) (hN:X.N[i]?=some x:=by rfl) (hvs:Vis X.env.scope x:=by first|exact Or.inl rfl|exact Or.inr (Or.inl rfl)|exact Or.inr (Or.inr rfl))
  (hd:(x ==("__debug__" : Str))=false:=by decide) (hcd:(x ==("__classdict__" : Str))=false:=by decide)
  (he:starEach [.Name x px,.Tuple es k tp] X.env=(false,eval (.Name x px) X.env)::starEach [.Tuple es k tp] X.env:=by rfl) (he2:starEach [.Tuple es k tp] X.env=(false,eval (.Tuple es k tp) X.env)::starEach [] X.env:=by rfl) (hpl:(backTo pos (starEach [.Tuple es k tp] X.env)).any (·.1)=false:=by rfl) :
  DE X (.Call (.Name "isinstance" p) [.Name x px,.Tuple es k tp] [] pos) (zka i tab):=by
 have hc:wy X (.builtin "isinstance") (λvs H Q=>∃nm b a C od q,vs = [.ref a,.ref q]/\tab nm=some b/\nsIn X.K mainGlobals nm=some (some (.ref C))/\H a=some (za4 C od a)/\XDc H od/\SqT X.K H q cvs/\Q (.bl b) H):=λpins s σ H xs us Q I rv ⟨nm,b,a,C,od,tq,e,ht,hn,ha,hd,hq,q⟩=>by
  subst e;obtain⟨u,w,rfl,r1,r2⟩:=rv.two
  cases r1
  cases r2;obtain⟨Z,ek⟩:=hk nm b ht C hn;obtain⟨its,rr,⟨⟨c',dd,dt,sl⟩,h1,h2,⟨n,h3⟩,_⟩,_⟩:=I.tupleD hq
  cases rc _ rr;simp only at h2 h3;subst h2 h3;exact kia_tup (zf5 Z) I.kIn (zf6 I ha hd) h1 ek (λz=>nomatch z) λtk=>⟨.bl b,H,I.tok tk,rfl,q⟩
 refine DE.of (vm hc hg hm hv (yo (x5 (i:=i) hN hvs hd hcd) (yo (zk3 h2) xp he2) he) (by decide) (by decide) he hpl) λσ H H₀ σD QD ok q=>?_;unfold zka at q
 split at q
 ·next x' e'=>
  obtain⟨v,e1,a,C,od,rfl,hn,ha,hf⟩:=ok.exc e'
  split at q
  ·next b ht=>
   refine⟨.ref a,e1,hz,λtq hq=>?_⟩;have sm:=zy hq (.tup cvs);have ok2:=ok.after sm;obtain⟨v2,e2,a2,C2,od2,rfl,hn2,ha2,hf2⟩:=ok2.exc e';rw[e1]at e2
   cases e2;exact⟨x'.1,b,a,C2,od2,tq,rfl,ht,hn2,ha2,XDc.of (K:=X.K) hf2,SqT.of zm,.bool b,sm,.bl,q⟩
  ·exact q.elim
 ·exact q.elim
theorem zf7:PA X [] (λ_ H Q=>Q [] H):=xp
theorem xv{es:List Expr}{v:V}{vs:List V}(h:PE X e (tC v))(t:PA X es (λ_ H Q=>Q vs H))(hs:starEach (e::es) X.env=(false,eval e X.env)::starEach es X.env:=by rfl):PA X (e::es) (λ_ H Q=>Q (v::vs) H):=yo h t hs
def zet:DTE:=λ_ _=>False
theorem je:DE X e zet:=⟨λ_ _ _ _ _ _ _ _ _ h=>h.elim⟩
theorem zds{k:Nat}(hr:Room0 k X.A):OpD X (compareOp .Eq) gEq:=⟨λpins s σ H x y v u a b Q I rx ry ra rb q=>by
 have G:=(zpb (X:=X) hr.units).run pins s σ H x y v u a b Q I rx ry ra rb;have S:=(zia (X:=X) (f:=λ_ _=>true) false .Eq zk0).run pins s σ H x y v u a b Q I rx ry ra rb
 cases a <;> cases b <;> first|exact S q|exact G q⟩
theorem zpk{k:Nat}(hr:Room0 k X.A):OpD X (compareOp .NotEq) gNe:=⟨λpins s σ H x y v u a b Q I rx ry ra rb q=>by
 have G:=(zpc (X:=X) hr.units).run pins s σ H x y v u a b Q I rx ry ra rb;have S:=(zia (X:=X) (f:=λ_ _=>true) true .NotEq zo3).run pins s σ H x y v u a b Q I rx ry ra rb
 cases a <;> cases b <;> first|exact S q|exact G q⟩
def zol(k:Bool):Value->Bool
 |.bool i=>i == k
 |_=>false
theorem j4:∀{bs:List Bool}{its:List Value},Vals (bs.map V.bl) its->its=bs.map Value.bool
 |[],_,.nil=>rfl
 |b::bs,_,.cons h t=>by
  have h:_=Value.bool b:=h;rw[h,j4 t];rfl
theorem zkb:MtR X "list.count" (λx vs H Q=>∃(l:Addr) (bs:List Bool) (k:Bool),x=.ref l/\vs = [.bl k]/\Rd H l (.lst (bs.map V.bl))/\Q (.int ((bs.count k:Nat):Int)) H):=by
 intro pins s σ H x vs v us Q I rx rv h;obtain⟨l,bs,k,rfl,rfl,hR,q⟩:=h
 cases rx;obtain⟨u,rfl,ru⟩:=rv.one
 cases ru;obtain⟨z,its,n,r,e⟩:=hR.ok I.hok
 cases j4 r;refine call_meets F.slot_list_count ⟨_,e,rfl⟩ F.entry_list_count (F.args_list_count_2 _ _) (PySem.SeqAt.list_countAt l (bs.map Value.bool).toArray n none #[] (.bool k) (zol k)) ⟨e,λy hy=>?_,?_⟩
 ·obtain⟨b,_,rfl⟩:=List.mem_map.mp (List.mem_toArray.mp hy);exact PySem.SeqAt.EqAt.bool_bool b k
 ·have ec:(bs.map Value.bool).countP (zol k)=bs.count k:=by
   rw[List.countP_map];rfl
  rw[List.toList_toArray,ec];exact⟨.int ((bs.count k:Nat):Int),H,I.tok _,⟨_,rfl⟩,q⟩
theorem zkc:MtR X "list.index" (λx vs H Q=>∃(l:Addr) (bs:List Bool) (k:Bool) (j:Nat),x=.ref l/\vs = [.bl k]/\Rd H l (.lst (bs.map V.bl))/\bs.findIdx? (· == k)=some j/\Q (.int (j:Int)) H):=by
 intro pins s σ H x vs v us Q I rx rv h;obtain⟨l,bs,k,j,rfl,rfl,hR,hj,q⟩:=h
 cases rx;obtain⟨u,rfl,ru⟩:=rv.one
 cases ru;obtain⟨z,its,n,r,e⟩:=hR.ok I.hok
 cases j4 r;obtain⟨hlt,hit,hno⟩:=List.findIdx?_eq_some_iff_getElem.mp hj;rw[List.length_map]at z;have zl:=sizeLine_eq;refine call_meets F.slot_list_index ⟨_,e,rfl⟩ F.entry_list_index (F.args_list_index_2 _ _) (PySem.SeqAt.list_indexAt l (bs.map Value.bool).toArray n none #[] (.bool k) (zol k) j (by simpa using hlt) (by omega) ?_ λm hm hmj=>?_) ⟨e,λy hy=>?_,?_⟩
 ·simp only[List.getElem_toArray,List.getElem_map];exact hit
 ·simp only[List.getElem_toArray,List.getElem_map];have:=hno m hmj;simpa[zol]using this
 ·obtain⟨b,_,rfl⟩:=List.mem_map.mp (List.mem_toArray.mp hy);exact PySem.SeqAt.EqAt.bool_bool b k
 ·exact⟨.int (j:Int),H,I.tok _,⟨_,rfl⟩,q⟩
variable {o:Expr}{to te:DTE}{apos cpos:Pos}
def zmf(to te:DTE):DTE:=λσ Q=>to σ λd=>match d with
 |.list xs=>te σ λk=>(match k with
  |.bool c=>(match v4 xs with
   |some bs=>Q (.int ((bs.count c:Nat):Int))
   |none=>False)
  |_=>False)
 |_=>False
def zmg(to te:DTE):DTE:=λσ Q=>to σ λd=>match d with
 |.list xs=>te σ λk=>(match k with
  |.bool c=>(match v4 xs with
   |some bs=>(match bs.findIdx? (· == c) with
    |some j=>Q (.int (j:Nat))
    |none=>False)
   |none=>False)
  |_=>False)
 |_=>False
theorem zdt(ho:DV X o to)(ha:DE X e te)(hbase:attributeBase o "count" X.env (eval o X.env)=eval o X.env:=by rfl)
  (hfew:((backTo cpos (starEach [e] X.env)).all (λx=>!x.1) && (backToKw cpos (keywordEach [] X.env)).all (λx=>x.1.isSome) && decide (([e]:List Expr).length+([]:List Keyword).length+(if ([]:List Keyword).isEmpty then 0 else 1)<30))=true:=by rfl)
  (hline:(apos.endLine == cpos.line)=true:=by rfl) (hs:starEach [e] X.env=(false,eval e X.env)::starEach [] X.env:=by rfl) (hplain:(backTo cpos (starEach [] X.env)).any (·.1)=false:=by rfl) :
  DE X (.Call (.Attribute o "count" apos) [e] [] cpos) (zmf to te) :=
 DE.of (zk7 F.plainAttrs_list F.slot_list_count F.type_list_count zkb ho.pe (yo ha.pe xp hs) hbase hfew hline hs hplain) λσ H H₀ σD QD ok q=>⟨H₀,σD,_,ok,q,λv H1 d s1 r1 q1=>by
  cases d with
  |list xs=>
   obtain⟨a,vs,rfl,hR,rp⟩:=r1.list;refine⟨.inl ⟨rfl,vs,.inl hR⟩,H₀,σD,_,ok.after s1,q1,λv2 H2 d2 s2 r2 q2=>?_⟩
   cases d2 with
   |bool c=>
    cases r2;dsimp only at q2
    split at q2
    ·next bs hb=>
     have e:=jw rp hb;subst e;refine⟨a,bs,c,rfl,rfl,s2.rd hR,.int _,s1.trans s2,.int,q2⟩
    ·exact q2.elim
   |_=>exact q2.elim
  |_=>exact q1.elim⟩
theorem zdu(ho:DV X o to)(ha:DE X e te)(hbase:attributeBase o "index" X.env (eval o X.env)=eval o X.env:=by rfl)
  (hfew:((backTo cpos (starEach [e] X.env)).all (λx=>!x.1) && (backToKw cpos (keywordEach [] X.env)).all (λx=>x.1.isSome) && decide (([e]:List Expr).length+([]:List Keyword).length+(if ([]:List Keyword).isEmpty then 0 else 1)<30))=true:=by rfl)
  (hline:(apos.endLine == cpos.line)=true:=by rfl) (hs:starEach [e] X.env=(false,eval e X.env)::starEach [] X.env:=by rfl) (hplain:(backTo cpos (starEach [] X.env)).any (·.1)=false:=by rfl) :
  DE X (.Call (.Attribute o "index" apos) [e] [] cpos) (zmg to te) :=
 DE.of (zk7 F.plainAttrs_list F.slot_list_index F.type_list_index zkc ho.pe (yo ha.pe xp hs) hbase hfew hline hs hplain) λσ H H₀ σD QD ok q=>⟨H₀,σD,_,ok,q,λv H1 d s1 r1 q1=>by
  cases d with
  |list xs=>
   obtain⟨a,vs,rfl,hR,rp⟩:=r1.list;refine⟨.inl ⟨rfl,vs,.inl hR⟩,H₀,σD,_,ok.after s1,q1,λv2 H2 d2 s2 r2 q2=>?_⟩
   cases d2 with
   |bool c=>
    cases r2;dsimp only at q2
    split at q2
    ·next bs hb=>
     split at q2
     ·next j hj=>
      have e:=jw rp hb;subst e;refine⟨a,bs,c,j,rfl,rfl,s2.rd hR,hj,.int _,s1.trans s2,.int,q2⟩
     ·exact q2.elim
    ·exact q2.elim
   |_=>exact q2.elim
  |_=>exact q1.elim⟩
end
end L2
namespace L2
open PySem PySem.Spec PyProof.Rows PySem.W
def va(L:List Str)(t:Str):Str->Option Bool:=λnm=>if L.contains nm then some (nm == t) else none
def zf8(L:List Str)(b:Bool):Str->Option Bool:=λnm=>if L.contains nm then some b else none
section
variable {K:Frag}{C D:Addr}{t:Value}{b:Bool}
theorem yu(hd:hasDictIn K D=true)(ht:typeIn K (.ref D)=some (.type "type"))(hs:subIn K t (.ref D)=some b):kitCls K t (.ref D)=some b:=by
 obtain⟨cd,hc,_⟩:=kj hd;show(if ((clsIn K D).isSome && typeIn K (.ref D) == some (.type "type"))=true then subIn K t (.ref D) else none)=some b;rw[hc,ht,if_pos (by rfl)];exact hs
theorem y4(h:C≠D)(k:kitCls K (.ref C) (.ref D)=some b):kitOne K (.ref C) (.ref D)=some b:=by
 unfold kitOne;rw[if_neg (λq=>h (Value.ref.inj (beq_iff_eq.mp q)))];exact k
theorem zbl:kitOne K (.ref C) (.ref C)=some true:=by
 unfold kitOne;rw[if_pos (by exact beq_self_eq_true _)]
theorem xg{T:String}(hm:kitMeta T=true)(hs:subIn K (.ref C) (.type T)=some b):kitOne K (.ref C) (.type T)=some b:=by
 unfold kitOne;rw[if_neg (λq=>by cases beq_iff_eq.mp q)];show(if kitMeta T=true then subIn K (.ref C) (.type T) else none)=some b;rw[if_pos hm];exact hs
theorem xw{c:Value}{cs:List Value}(h:kitOne K t c=some false)(r:kitAny K t cs=some b):kitAny K t (c::cs)=some b:=by
 unfold kitAny;rw[h];exact r
theorem zci:kitAny K t []=some false:=rfl
theorem x9{P:Str->Prop}:∀r∈([]:List Str),P r:=λ_ h=>nomatch h
theorem yi{P:Str->Prop}{a:Str}{l:List Str}(h:P a)(t:∀r∈l,P r):∀r∈a::l,P r:=λr hr=>by
 rcases List.mem_cons.mp hr with rfl|hr
 ·exact h
 ·exact t r hr
theorem qe{c:Value->Prop}{L:List Str}{tab:Str->Option Bool}{F:Addr->Bool->Prop}(hL:∀nm b,tab nm=some b->nm∈L)
  (h:∀r∈L,∃C,nsIn K mainGlobals r=some (some (.ref C))/\∀b,tab r=some b->F C b):∀nm b,tab nm=some b->∀C,nsIn K mainGlobals nm=some (some (.ref C))->F C b:=λnm b e C hC=>by
 obtain⟨C',h1,h2⟩:=h nm (hL nm b e);rw[h1]at hC
 cases hC;exact h2 b e
theorem qf{L:List Str}{t:Str}:∀nm b,va L t nm=some b->nm∈L:=λnm b e=>by
 unfold va at e
 split at e
 ·next h=>exact List.contains_iff_mem.mp h
 ·cases e
theorem zit{L:List Str}{v:Bool}:∀nm b,zf8 L v nm=some b->nm∈L:=λnm b e=>by
 unfold zf8 at e
 split at e
 ·next h=>exact List.contains_iff_mem.mp h
 ·cases e
theorem xh{tab:Str->Option Bool}{r:Str}{v:Bool}{F:Addr->Bool->Prop}(hC:nsIn K mainGlobals r=some (some (.ref C)))(ht:tab r=some v)(f:F C v):∃C,nsIn K mainGlobals r=some (some (.ref C))/\∀b,tab r=some b->F C b :=
 ⟨C,hC,λb e=>by rw[ht]at e;cases e;exact f⟩
theorem ziu{r:Str}{F:Addr->Prop}(hC:nsIn K mainGlobals r=some (some (.ref C)))(f:F C):∀D,nsIn K mainGlobals r=some (some (.ref D))->F D:=λD e=>by rw[hC]at e;cases e;exact f
theorem zcj:∀(ps:List (V×Value)),(∀p∈ps,∀u,RelV p.1 u->u=p.2)->∀us,Vals (ps.map (·.1)) us->us=ps.map (·.2)
 |[],_,_,.nil=>rfl
 |p::ps,h,_,.cons r t=>by rw[h p List.mem_cons_self _ r,zcj ps (λq hq=>h q (List.mem_cons_of_mem _ hq)) _ t];rfl
end
theorem xz{t R:DTS}{Dn:x4}{σ:DSt}(P:DSt->Prop)(h:∀N:DSt->Prop,(∀σ',P σ'->N σ')->t { Dn with nx:=N } σ)(k:∀σ',P σ'->R Dn σ'):zly t R Dn σ:=h _ k
section
variable {X:Cx}
end
end L2
namespace L2
open PySem PySem.Spec PyProof.Rows
section
variable {X:Cx}
end
section
variable {K:PySem.W.Frag}{H₀ H:Hp}{σD:DSt}{σ:St}
def O.with:O->O->O
 |.anc a o,o'=>.anc a (o.with o')
 |_,o'=>o'
theorem RepO.ref{o:O}{v:V}{f:List Addr}(h:RepO K H o v f):∃a,v=.ref a:=by
 induction o with
 |anc a o ih=>exact⟨a,h.1⟩
 |lst xs=>obtain⟨a,_,e,_⟩:=h;exact⟨a,e⟩
 |dct xs=>obtain⟨a,_,e,_⟩:=h;exact⟨a,e⟩
 |nst xs ds=>obtain⟨a,_,_,e,_⟩:=h;exact⟨a,e⟩
 |ins c fs=>obtain⟨a,_,_,_,e,_⟩:=h;exact⟨a,e⟩
 |mix ms=>obtain⟨a,_,_,e,_⟩:=h;exact⟨a,e⟩
theorem RepO.with{H':Hp}{o o':O}{v:V}{f f':List Addr}(h:RepO K H o v f)(h':RepO K H' o' v f'):RepO K H' (o.with o') v f':=by
 induction o with
 |anc a o ih=>exact⟨h.1,ih h.2⟩
 |_=>exact h'
end
def W.plain:W->Bool
 |.val _=>true
 |.pen=>true
 |_=>false
theorem RepWs.mono{K:PySem.W.Frag}{H H':Hp}(p:Pers H H'){ws:List W}{vs:List V}(h:∀w∈ws,w.plain=true)(q:RepWs K H ws vs):RepWs K H' ws vs:=by
 induction q with
 |nil=>exact .nil
 |@cons w _ _ _ r t ih=>
  refine .cons ?_ (ih λx hx=>h x (List.mem_cons_of_mem _ hx));have:=h w List.mem_cons_self
  cases w with
  |val d=>exact Rep.mono p r
  |pen=>obtain⟨a,rfl,r⟩:=r;exact⟨a,rfl,p _ _ r rfl⟩
  |_=>cases this
abbrev zkd:=List W->O->List W->(D->O->Prop)->Prop
structure ziv where
 nx:DSt->Prop
 rt:D->DSt->Prop
 bk:DSt->Prop:=λ_=>False
 ct:DSt->Prop:=λ_=>False
abbrev GTS:=ziv->DSt->Prop
def zmh(K:PySem.W.Frag)(H₀ H:Hp)(Gn:ziv):zgm where
 nx:=λσ' H'=>∃σD',DOk K H₀ H' σD' σ'/\Pers H H'/\Gn.nx σD'
 bk:=λσ' H'=>∃σD',DOk K H₀ H' σD' σ'/\Pers H H'/\Gn.bk σD'
 ct:=λσ' H'=>∃σD',DOk K H₀ H' σD' σ'/\Pers H H'/\Gn.ct σD'
 rt:=λv H'=>∃σ' σD' d,DOk K H₀ H' σD' σ'/\Rep K H' d v/\Gn.rt d σD'
structure DGS(X:Cx)(st:Stmt)(t:GTS):Prop where
 run:∀(pins:List (Addr×Obj)) (s:Shared) (σ:St) (H H₀:Hp) (σD:DSt) (Gn:ziv),Inv X pins σ H s->DOk X.K H₀ H σD σ->t Gn σD->wpAny (model X.prog X.w) X.A (exec st X.env) (SP X pins (zmh X.K H₀ H Gn)) X.xe s
structure DGSs(X:Cx)(st:List Stmt)(t:GTS):Prop where
 run:∀(pins:List (Addr×Obj)) (s:Shared) (σ:St) (H H₀:Hp) (σD:DSt) (Gn:ziv),Inv X pins σ H s->DOk X.K H₀ H σD σ->t Gn σD->wpAny (model X.prog X.w) X.A (execs st X.env) (SP X pins (zmh X.K H₀ H Gn)) X.xe s
section
variable {X:Cx}{st:Stmt}{sts rest:List Stmt}{t u:GTS}{e:Expr}{te:DTE}{pos:Pos}
theorem DGS.of{t':TS}(h:PS X st t')(k:∀σ H H₀ σD Gn,DOk X.K H₀ H σD σ->t Gn σD->t' (zmh X.K H₀ H Gn) σ H):DGS X st t :=
 ⟨λpins s σ H H₀ σD Gn I ok q=>h pins s σ H _ I (k σ H H₀ σD Gn ok q)⟩
def zt9(K:PySem.W.Frag)(t:GTS):TS:=λE σ H=>∃H₀ σD Gn,DOk K H₀ H σD σ/\t Gn σD/\(∀σ' H' σD',DOk K H₀ H' σD' σ'->Pers H H'->Gn.nx σD'->E.nx σ' H')/\(∀v H' σ' σD' d,DOk K H₀ H' σD' σ'->Rep K H' d v->Gn.rt d σD'->E.rt v H') /\
 (∀σ' H' σD',DOk K H₀ H' σD' σ'->Pers H H'->Gn.bk σD'->E.bk σ' H')/\∀σ' H' σD',DOk K H₀ H' σD' σ'->Pers H H'->Gn.ct σD'->E.ct σ' H'
theorem DGSs.ps(h:DGSs X sts t):PSs X sts (zt9 X.K t):=λpins s σ H E I ⟨H₀,σD,Gn,ok,q,k1,k2,k3,k4⟩=>thn (h.run pins s σ H H₀ σD Gn I ok q) λf s' z=>by
 cases f with
 |next=>obtain⟨a,b,e1,c,e2,e3,e4⟩:=z;exact⟨a,b,e1,k1 a b c e2 e3 e4⟩
 |brk=>obtain⟨a,b,e1,c,e2,e3,e4⟩:=z;exact⟨a,b,e1,k3 a b c e2 e3 e4⟩
 |cont=>obtain⟨a,b,e1,c,e2,e3,e4⟩:=z;exact⟨a,b,e1,k4 a b c e2 e3 e4⟩
 |ret u=>obtain⟨v,a,b,e1,e2,σ',σD',d,e3,e4,e5⟩:=z;exact⟨v,a,b,e1,e2,k2 v b σ' σD' d e3 e4 e5⟩
end
abbrev zke:=DSt->(List W->List W->Prop)->Prop
structure DPG(X:Cx)(i:Nat)(es:List Expr)(t:zke):Prop where
 run:∀(pos:Pos) (pins:List (Addr×Obj)) (s:Shared) (σ:St) (H H₀:Hp) (σD:DSt) (Q:List W->List W->Prop),Inv X pins σ H s->DOk X.K H₀ H σD σ->t σD Q ->
  wpAny (model X.prog X.w) X.A (spliced (backTo pos (starEach es X.env))) (λus s'=>∃vp v vq H' wp wq,Inv X pins σ H' s'/\Vals (vp++v::vq) us/\Same H H'/\σ[i]?=some (some v)/\RepWs X.K H' wp vp/\RepWs X.K H' wq vq/\Q wp wq) X.xe s
section
variable {X:Cx}{e:Expr}{es:List Expr}{k k' i j:Nat}{x:Str}{ps:List Str}{sp:zkd}{t:zke}{p pos:Pos}
end
section
variable {P:Program}{w:World}{K:PySem.W.Frag}{mg:Str->Option Value}{base:Heap}
end
section
variable {X:Cx}{e ie:Expr}{pos:Pos}{te ta:DTE}{t1 t2:DTF}
end
section
variable {X:Cx}{a b:Expr}{rest:List Expr}{pos:Pos}
end
section
variable {K:PySem.W.Frag}{H:Hp}
end
section
variable {X:Cx}{e:Expr}{es:List Expr}{te:DTE}{t:DTP}{pos:Pos}{c f m x:Str}{C g:Addr}{i j k k':Nat}{fd:FuncData}{ps:List Str}{sp:zkd}
end
section
variable {X:Cx}{e:Expr}{pos:Pos}{i j:Nat}{sp:zkd}{t:zke}{a b:List Stmt}{ta tb:DTS}
end
section
variable {X:Cx}{tg e:Expr}{te:DTE}
end
section
variable {X:Cx}{e:Expr}{te:DTE}{pos p2:Pos}{lo hi:Option Expr}{tl th:DTO}
end
section
variable {X:Cx}
variable {o e:Expr}{to te:DTE}{apos cpos:Pos}{name:Str}{id:String}{gV:Str->Str->V}{gD:Str->Str->D}
end
open PySem.Builtin PySem.Builtin.Str
section
variable {X:Cx}
variable {o e:Expr}{to te:DTE}{apos cpos:Pos}
end
end L2
namespace L2
open PySem PySem.Spec PyProof.Rows
open PySem.Builtin PySem.Builtin.Str
section
variable {X:Cx}
end
end L2
namespace L2
open PySem PySem.Spec PyProof.Rows
section
variable {X:Cx}
end
section
variable {X:Cx}{e:Expr}{te:DTE}{pos tpos px py ps:Pos}{k i j:Nat}{x y:Str}
end
end L2
namespace L2
open PySem PySem.Spec PyProof.Rows PySem.NumText
structure zuo(x:Str):Prop where
 dig:∀c∈x.cps.toList,48<=c/\c<=57
 ne:x.cps.toList ≠ []
 le:x.length<=10
 hd:x=Str.ofString "0" \/ x.cps.toList.head?≠some 48
end L2
namespace L2
open PySem PySem.Spec PyProof.Rows
section
variable {X:Cx}{e:Expr}{es:List Expr}
end
section
variable {X:Cx}{k v e f:Expr}{tk tv te tf:DTE}{apos cpos dpos:Pos}
end
section
variable {X:Cx}{k e f:Expr}{tk te tf:DTE}{p1 pos pos':Pos}
end
def MxAt(K:PySem.W.Frag)(H:Hp)(bs:List Addr)(u:V):Mx->Prop
 |.v d=>Rep K H d u
 |.l xs=>∃b vs,u=.ref b/\b∈bs/\H b=some (.lst vs)/\Reps K H xs vs
section
variable {K:PySem.W.Frag}{H H':Hp}
theorem MxAt.more{bs cs:List Addr}{u:V}{m:Mx}(h:MxAt K H bs u m)(k:∀b∈bs,b∈cs):MxAt K H cs u m:=by
 cases m with
 |v d=>exact h
 |l xs=>obtain⟨b,vs,e1,e2,e3⟩:=h;exact⟨b,vs,e1,k b e2,e3⟩
theorem MxR.at:∀{ms:List Mx}{us:List V}{bs:List Addr}{k:Nat}{m:Mx},MxR K H ms us bs->ms[k]?=some m->∃u,us[k]?=some u/\MxAt K H bs u m
 |[],_,_,k,m,_,e=>by simp at e
 |.v d::ms,u::us,bs,0,m,h,e=>by cases e;exact⟨u,rfl,h.1⟩
 |.v d::ms,u::us,bs,k+1,m,h,e=>by
  obtain⟨w,e1,r⟩:=MxR.at (k:=k) h.2 (by simpa using e);exact⟨w,by simpa using e1,r⟩
 |.l xs::ms,u::us,b::bs,0,m,h,e=>by
  cases e;obtain⟨e0,⟨vs,e1,r⟩,_⟩:=h;exact⟨u,rfl,b,vs,e0,List.mem_cons_self,e1,r⟩
 |.l xs::ms,u::us,b::bs,k+1,m,h,e=>by
  obtain⟨w,e1,r⟩:=MxR.at (k:=k) h.2.2 (by simpa using e);exact⟨w,by simpa using e1,r.more λc hc=>List.mem_cons_of_mem _ hc⟩
end
section
variable {X:Cx}{e ie:Expr}{te ti:DTE}{tf:DTF}{pos:Pos}
end
section
variable {X:Cx}{tg iter elt:Expr}{ifs:List Expr}{scope:Scope}{cl:List (Str×Addr)}{N' capt:List Str}{k:Nat}{js is:List Nat}{ti:DTF}{g:DTG}{tt:DTT}{tf:DTF}{pos:Pos}
end
end L2
namespace SV
open PySem
def Ris(xs:Array Nat):Prop:=xs.toList.Pairwise (· < ·)
theorem Ris.lt{xs:Array Nat}(h:Ris xs){i j:Nat}(hij:i<j)(hj:j<xs.size):xs.getD i 0<xs.getD j 0:=by
 have:=List.pairwise_iff_getElem.mp h i j (by simpa using Nat.lt_trans hij hj) (by simpa using hj) hij;simpa[Array.getD,hj,Nat.lt_trans hij hj]using this
structure Bel(xs:Array Nat)(j b:Nat):Prop where
 le:b<=xs.size
 lo:∀i,i<b->xs.getD i 0<j
 hi:∀i,b<=i->i<xs.size->j<=xs.getD i 0
theorem zf9{xs:Array Nat}{i:Nat}(h:i<xs.size)(d e:Nat):xs.getD i d=xs.getD i e:=by simp[Array.getD,h]
theorem zhk{xs:Array Nat}(h:Ris xs)(j:Nat):∀(fuel lo hi:Nat),hi-lo<=fuel->lo<=hi->hi<=xs.size->(∀i,i<lo->xs.getD i 0<j)->(∀i,hi<=i->i<xs.size->j<=xs.getD i 0)->Bel xs j (SetTable.below.go xs j fuel lo hi)
 |0,lo,hi,hf,hl,hs,h1,h2=>by
  have:lo=hi:=by omega
  subst this;exact⟨hs,h1,h2⟩
 |fuel+1,lo,hi,hf,hl,hs,h1,h2=>by
  unfold SetTable.below.go
  split
  ·next c=>
   dsimp only;have hm:(lo+hi) / 2<hi:=by omega
   have hm':(lo+hi) / 2<xs.size:=by omega
   by_cases c2:xs.getD ((lo+hi) / 2) j<j
   ·rw[if_pos c2];rw[zf9 hm' j 0]at c2;refine zhk h j fuel ((lo+hi) / 2+1) hi (by omega) (by omega) hs (λi hi'=>?_) h2
    by_cases e:i=(lo+hi) / 2
    ·rw[e];exact c2
    ·exact Nat.lt_trans (h.lt (by omega) hm') c2
   ·rw[if_neg c2];rw[zf9 hm' j 0]at c2;refine zhk h j fuel lo ((lo+hi) / 2) (by omega) (by omega) (by omega) h1 (λi hi' his=>?_)
    by_cases e:i=(lo+hi) / 2
    ·rw[e];omega
    ·have:=h.lt (i:=(lo+hi) / 2) (j:=i) (by omega) his;omega
  ·next c=>
   have:lo=hi:=by omega
   subst this;exact⟨hs,h1,h2⟩
theorem zbd{xs:Array Nat}(h:Ris xs)(j:Nat):Bel xs j (SetTable.below xs j) :=
 zhk h j xs.size 0 xs.size (by omega) (Nat.zero_le _) (Nat.le_refl _) (λi hi=>absurd hi (Nat.not_lt_zero _)) λi h1 h2=>by omega
theorem zmi{xs:Array Nat}{x:Nat}(h:x∈xs.toList):∃i,i<xs.size/\xs.getD i 0=x:=by
 obtain⟨i,hi,e⟩:=List.getElem_of_mem h;have hi':i<xs.size:=by simpa using hi
 exact⟨i,hi',by simpa[Array.getD,hi']using e⟩
def Not(xs:Array Nat)(j:Nat):Prop:=xs[SetTable.below xs j]?≠some j
theorem Not.nmem{xs:Array Nat}(h:Ris xs){j:Nat}(n:Not xs j):j∉xs.toList:=λhm=>by
 obtain⟨i,hi,e⟩:=zmi hm;have b:=zbd h j;have h1:¬ i<SetTable.below xs j:=λc=>by have:=b.lo i c;omega
 have h2:¬ SetTable.below xs j<i:=λc=>by
  have:=h.lt c hi;have:=b.hi _ (Nat.le_refl _) (by omega);omega
 have e2:i=SetTable.below xs j:=by omega
 subst e2;refine n ?_;simp[Array.getD,hi]at e;rw[Array.getElem?_eq_getElem hi,e]
theorem zga{α:Type}(xs:Array α)(p:Nat)(x:α)(hp:p<=xs.size):(SetTable.insertAt xs p x).toList=xs.toList.take p++x::xs.toList.drop p:=by
 unfold SetTable.insertAt;simp[List.take_of_length_le]
theorem zom{xs:Array Nat}(h:Ris xs){j:Nat}(n:Not xs j):Ris (SetTable.insertAt xs (SetTable.below xs j) j):=by
 have b:=zbd h j;have nm:=n.nmem h;unfold Ris;rw[zga _ _ _ b.le];have ht:∀x∈xs.toList.take (SetTable.below xs j),x<j:=λx hx=>by
  obtain⟨i,hi,e⟩:=List.getElem_of_mem hx;rw[List.length_take]at hi;rw[List.getElem_take]at e;have his:i<xs.size:=by simp at hi;omega
  have:=b.lo i (by omega);simp[Array.getD,his]at this;rw[<-e];simpa using this
 have hd:∀x∈xs.toList.drop (SetTable.below xs j),j<x:=λx hx=>by
  have hmem:=List.mem_of_mem_drop hx;obtain⟨i,hi,e⟩:=List.getElem_of_mem hx;rw[List.length_drop]at hi;rw[List.getElem_drop]at e;have his:SetTable.below xs j+i<xs.size:=by simp at hi;omega
  have h3:=b.hi (SetTable.below xs j+i) (by omega) his;simp[Array.getD,his]at h3;simp at e;have:j≠x:=λz=>nm (z ▸ hmem);omega
 refine List.pairwise_append.mpr ⟨h.sublist (List.take_sublist _ _),List.pairwise_cons.mpr ⟨hd,h.sublist (List.drop_sublist _ _)⟩,λa ha c hc=>?_⟩;have h1:=ht a ha;rcases List.mem_cons.mp hc with rfl|hc
 ·exact h1
 ·exact Nat.lt_trans h1 (hd c hc)
theorem zgb{t:SetTable}{j:Nat}(h:∀i,t.slot j ≠ .live i):Not t.place j:=λe=>by
 refine h (SetTable.below t.place j) ?_;unfold SetTable.slot;simp[e]
theorem zbe{t:SetTable}{f:Nat->Int}{h:Int}:∀(fuel:Nat) (p:SetTable.Probe),(∀d,p.dummy=some d->Not t.place d)->∀j dm,SetTable.probe.go t f h fuel p=some (.empty j dm)->Not t.place j/\∀d,dm=some d->Not t.place d
 |0,p,hp,j,dm,e=>by cases e
 |fuel+1,p,hp,j,dm,e=>by
  unfold SetTable.probe.go at e
  split at e
  ·next c=>
   cases e;exact⟨zgb (λi z=>by rw[c]at z;cases z),hp⟩
  ·next c=>
   refine zbe fuel _ ?_ j dm e;intro d hd;have:p.j=d:=by
    unfold SetTable.advance at hd
    split at hd
    ·exact Option.some.inj hd
    ·exact Option.some.inj hd
   subst this;exact zgb λi z=>by rw[c]at z;cases z
  ·next i c=>
   split at e
   ·cases e
   ·refine zbe fuel _ ?_ j dm e;intro d hd;refine hp d ?_;unfold SetTable.advance at hd
    split at hd <;> exact hd
theorem zmj{t:SetTable}{h:Int}{j:Nat}{b:Bool}(e:t.freeSlot h=some (j,b)):Not t.place j:=by
 unfold SetTable.freeSlot at e
 split at e
 ·next j' dm c=>
  obtain⟨h1,h2⟩:=zbe _ _ (λd hd=>by cases hd) _ _ c;simp only[Option.some.injEq,Prod.mk.injEq]at e;obtain⟨e1,_⟩:=e
  cases dm with
  |none=>simp at e1;subst e1;exact h1
  |some d=>simp at e1;subst e1;exact h2 _ rfl
 ·cases e
theorem jf(t:SetTable)(n:Nat):Ris (t.standIn n).place:=by
 unfold Ris SetTable.standIn;simp only[Array.toList_range];exact List.pairwise_lt_range
theorem zrq{t:SetTable}(h:Ris t.place)(n:Nat):Ris (t.orStandIn n).place/\(t.orStandIn n).led=t.led:=by
 unfold SetTable.orStandIn
 split
 ·exact⟨h,rfl⟩
 ·exact⟨jf _ _,rfl⟩
theorem zon{t:SetTable}(h:Ris t.place)(es:Array (Int×Value))(hh:Int)(x:Value):Ris (layNew t es hh x).2.1.place/\(layNew t es hh x).2.1.led=t.led:=by
 unfold layNew
 split
 ·next slot wd e=>
  have r:=zom h (zmj e);exact zrq (t:=(t.put slot).1) r _
 ·exact⟨jf _ _,rfl⟩
theorem zmk{mask f m:Nat}{led pl:Bool}{hs:Array Int}{t':SetTable}{o:Array Nat}(e:SetTable.laid mask f m led pl hs=some (t',o)):Ris t'.place/\t'.led=led:=by
 unfold SetTable.laid at e
 cases ho:SetTable.layClean mask hs with
 |none=>rw[ho]at e;cases e
 |some owner=>
  rw[ho]at e;simp only[Option.bind_eq_bind,Option.bind_some,Option.pure_def,Option.some.injEq,Prod.mk.injEq]at e;obtain⟨e1,_⟩:=e;subst e1;refine⟨?_,rfl⟩;unfold Ris;simp only[];rw[List.map_filterMap];refine List.Pairwise.filterMap _ (λa a' haa b hb b' hb'=>?_) List.pairwise_lt_range;simp only[Option.map_eq_some_iff]at hb hb';obtain⟨_,⟨_,_,rfl⟩,rfl⟩:=hb;obtain⟨_,⟨_,_,rfl⟩,rfl⟩:=hb';exact haa
theorem zkf{t:SetTable}(es:Array (Int×Value))(wanted:Nat):Ris (relayAll t es wanted).2.1.place/\(relayAll t es wanted).2.1.led=t.led:=by
 unfold relayAll
 split
 ·next t' o e=>
  dsimp only
  split
  ·exact zmk e
  ·exact⟨jf _ _,rfl⟩
 ·exact⟨jf _ _,rfl⟩
end SV
namespace SV
open PySem
def Tb(w:World)(t:SetTable):Prop:=Ris t.place/\t.led = !w.params.followText "set-order"
theorem Tb.lay{w:World}{t:SetTable}(h:Tb w t)(es:Array (Int×Value))(hh:Int)(x:Value):Tb w (layNew t es hh x).2.1:=by
 obtain⟨h1,h2⟩:=zon h.1 es hh x;exact⟨h1,h2.trans h.2⟩
theorem Tb.relay{w:World}{t:SetTable}(h:Tb w t)(es:Array (Int×Value))(n:Nat):Tb w (relayAll t es n).2.1:=by
 obtain⟨h1,h2⟩:=zkf (t:=t) es n;exact⟨h1,h2.trans h.2⟩
end SV
namespace PySem
section
variable {prog:Program}{w:World}{K:Type}[DecidableEq K](knd:KeyKind prog w K)
def Heap.SetV(h:Heap)(a:Addr)(S:K->Bool)(n:Nat):Prop :=
 ∃o es ep t,h.get? a=some o/\o.ExactSet/\o.data=.set es ep t/\ElemsOf knd es.toList/\(∀k,S k=true↔∃e∈es.toList,knd.is k e.2=true)
  /\ es.size<scanBound/\t.fits es.size=true/\es.size=n/\SV.Tb w t
variable {knd}
variable {A:Around}{E:Value->Shared->Prop}{s:Shared}
theorem zhl{h:Heap}{a:Addr}{S S':K->Bool}{n n':Nat}(hS:h.SetV knd a S n)(e:∀k,S k=S' k)(en:n=n'):h.SetV knd a S' n':=by
 have:S=S':=funext e;subst this;subst en;exact hS
theorem zaq{h:Heap}{a:Addr}{o:Obj}{es:Array (Int×Value)}{ep:Nat}{t:SetTable}(ho:h.get? a=some o)(hex:o.ExactSet)(hd:o.data=.set es ep t)
  {es':Array (Int×Value)}{t':SetTable}{S':K->Bool} (hel:ElemsOf knd es'.toList) (hmem:∀k,S' k=true↔∃e∈es'.toList,knd.is k e.2=true) (hb:es'.size<scanBound) (hf:t'.fits es'.size=true) (hx:SV.Tb w t') :
  (h.update a (Obj.putSet es' t')).get? a=some { o with data:=.set es' (ep+1) t' }/\(h.update a (Obj.putSet es' t')).SetV knd a S' es'.size:=by
 have hg:(h.update a (Obj.putSet es' t')).get? a=some { o with data:=.set es' (ep+1) t' }:=by
  have:=Heap.get?_update_self (Obj.putSet es' t') ho (by rw[putSet_of es' t' hd];rfl);rw[putSet_of es' t' hd]at this;exact this
 exact⟨hg,_,es',ep+1,t',hg,hex,rfl,hel,hmem,hb,hf,rfl,hx⟩
theorem kl{g:Bool->Sem Unit}(hg:∀(b:Bool) (s₁:Shared) (Q':Unit->Shared->Prop),Q' () s₁->wpAny (model prog w) A (g b) Q' E s₁)
  {a:Addr}{o:Obj}{es:Array (Int×Value)}{ep:Nat}{t:SetTable} (ho:s.heap.get? a=some o) (hex:o.ExactSet) (hd:o.data=.set es ep t)
  {es1:Array (Int×Value)}{t2:SetTable}{S':K->Bool} (hel1:ElemsOf knd es1.toList) (hmem1:∀k',S' k'=true↔∃e∈es1.toList,knd.is k' e.2=true)
  (hb1:es1.size<scanBound) (hf2:t2.fits es1.size=true) (hx2:SV.Tb w t2) {wasDummy:Bool}{R:Option Bool->Shared->Prop}
  (h:∀h',Heap.SameBut a s.heap h'->h'.SetV knd a S' es1.size->R (some true) { s with heap:=h' }) :
  wpAny (model prog w) A (do
    storeSet a es1 t2
    if (!wasDummy && t2.tooFull)=true then do
      g (relayAll t2 es1 (SetTable.grown es1.size)).2.2
      storeSet a (relayAll t2 es1 (SetTable.grown es1.size)).1 (relayAll t2 es1 (SetTable.grown es1.size)).2.1
      pure (some true)
     else pure (some true)) R E s:=by
 refine wpAny_bind (wpAny_storeSet_of ho hd ?_ (fits_of_scanBound hb1));obtain⟨ho1,hS1⟩:=zaq (knd:=knd) ho hex hd hel1 hmem1 hb1 hf2 hx2;have hsb1:=Heap.SameBut.update s.heap a (Obj.putSet es1 t2)
 split
 ·
  have hp:=relayAll_perm t2 es1 (SetTable.grown es1.size);have hfr:=relayAll_fits t2 es1 (SetTable.grown es1.size);have hxr:SV.Tb w (relayAll t2 es1 (SetTable.grown es1.size)).2.1:=hx2.relay es1 _;generalize hRl:relayAll t2 es1 (SetTable.grown es1.size)=Rl at hp hfr hxr ⊢;obtain⟨es2,t3,gave2⟩:=Rl;dsimp only at hp hfr hxr ⊢;have hel2:ElemsOf knd es2.toList:=hel1.perm hp;have hmem2:∀k',S' k'=true↔∃e∈es2.toList,knd.is k' e.2=true:=λk'=>(hmem1 k').trans ⟨λ⟨e,he,q⟩=>⟨e,hp.mem_iff.mpr he,q⟩,λ⟨e,he,q⟩=>⟨e,hp.mem_iff.mp he,q⟩⟩;have hsz:es2.size=es1.size:=by rw[<-Array.length_toList,hp.length_eq,Array.length_toList]
  have hb2:es2.size<scanBound:=by rw[hsz];exact hb1
  refine wpAny_bind (hg _ _ _ ?_);refine wpAny_bind (wpAny_storeSet_of ho1 rfl ?_ (fits_of_scanBound hb2));obtain⟨_,hS2⟩:=zaq (knd:=knd) ho1 hex rfl hel2 hmem2 hb2 hfr hxr;rw[hsz]at hS2;exact wpAny_pure (h _ (hsb1.trans (Heap.SameBut.update _ a _)) hS2)
 ·exact wpAny_pure (h _ hsb1 hS1)
theorem qg{a:Addr}{S:K->Bool}{n:Nat}{k:K}{x:Value}{Q:Bool->Shared->Prop}(hkey:knd.is k x=true)(hsc:x.scannable=true)(hS:s.heap.SetV knd a S n)
  (hroom:n+1<scanBound)
  (h:∀h',Heap.SameBut a s.heap h'->h'.SetV knd a (λk'=>S k' || decide (k'=k)) (if S k then n else n+1)->Q (!S k) { s with heap:=h' }) :
  wpAny (model prog w) A (setAddHashed a x (knd.hash k)) Q E s:=by
 obtain⟨o,es,ep,t,ho,hex,hd,hel,hmem,hb,hf,hn,hx⟩:=hS;have hb1:es.size+1<scanBound:=by rw[hn];exact hroom
 unfold setAddHashed setAddHashedIn;refine wpAny_holding (wpAny_bind (wpAny_setState_of ho hd hf ?_));dsimp only;rw[byScan_of hsc hb hel];simp only[↓reduceIte];unfold setAddByScan;refine wpAny_bind ?_;refine wpAny_bind (wpAny_rule ?_);refine wpAny_bind (wpAny_setScan_of hkey ho hd hf hel ?_)
 cases hr:List.findIdx? (λe=>knd.is k e.2) es.toList with
 |some j=>
  dsimp only;obtain⟨hj,hpj,_⟩:=List.findIdx?_eq_some_iff_getElem.mp hr;have hSk:S k=true:=(hmem k).mpr ⟨es.toList[j],List.getElem_mem hj,hpj⟩;refine wpAny_pure (wpAny_pure ?_);have e:s = { s with heap:=s.heap }:=by cases s;rfl
  have:=h s.heap (Heap.SameBut.refl a s.heap) ⟨o,es,ep,t,ho,hex,hd,hel,λk'=>by
   rw[Bool.or_eq_true,decide_eq_true_eq,<-hmem k'];exact⟨λhk=>hk.elim id (λe=>e ▸ hSk),.inl⟩,hb,hf,by rw[hSk];exact hn,hx⟩
  rw[hSk]at this;rw[e];exact this
 |none=>
  dsimp only;have hSk:S k=false:=by
   cases hk:S k with
   |false=>rfl
   |true=>obtain⟨e,he,hp⟩:=(hmem k).mp hk;have:=List.findIdx?_eq_none_iff.mp hr e he;rw[hp]at this;exact Bool.noConfusion this
  have hgw:∀(b:Bool) {s₁:Shared}{Q':Unit->Shared->Prop},Q' () s₁->wpAny (model prog w) A (match b with|true=>rule "set.scan.the-table-gave-way" |false=>pure ()) Q' E s₁ :=
   λb s₁ Q' hq=>by cases b <;> first|exact wpAny_pure hq|exact wpAny_rule hq
  have hperm:=layNew_perm t es (knd.hash k) x;have hfits:=layNew_fits t es (knd.hash k) x;have hxl:SV.Tb w (layNew t es (knd.hash k) x).2.1:=hx.lay es _ x;generalize hL:layNew t es (knd.hash k) x=L at hperm hfits hxl ⊢;obtain⟨es1,t1,wasDummy,gave⟩:=L;dsimp only at hperm hfits hxl ⊢;rw[Array.toList_push]at hperm;have hel1:ElemsOf knd es1.toList:=(hel.push hkey hsc).perm hperm;have hmem1:∀k',(S k' || decide (k'=k))=true↔∃e∈es1.toList,knd.is k' e.2=true:=mem_push_iff hkey hmem hperm;have hb1':es1.size<scanBound:=by rw[<-Array.length_toList,hperm.length_eq,List.length_append,Array.length_toList];simpa using hb1
  refine wpAny_bind (hgw _ ?_);have hsz1:es1.size=n+1:=by rw[<-Array.length_toList,hperm.length_eq,List.length_append,Array.length_toList,hn];rfl
  have hend:∀h',Heap.SameBut a s.heap h'->h'.SetV knd a (λk'=>S k' || decide (k'=k)) es1.size->Q true { s with heap:=h' }:=by
   intro h' hsb hS';have:=h h' hsb;rw[hSk]at this;rw[hsz1]at hS';exact this hS'
  split
  ·refine wpAny_bind ?_;rw[hashByValue_scannable 8 hsc];refine wpAny_pure ?_;refine kl ?_ ho hex hd hel1 hmem1 hb1' ?_ ?_ ?_
   ·intro b s₁ Q' hq;cases b <;> first|exact wpAny_pure hq|exact wpAny_rule hq
   ·split
    ·exact hfits
    ·exact SetTable.fits_plain_off hfits
   ·split
    ·exact hxl
    ·exact⟨hxl.1,hxl.2⟩
   ·intro h' hsb hS';dsimp only;exact wpAny_pure (hend h' hsb hS')
  ·refine wpAny_bind (wpAny_pure ?_);simp only[↓reduceIte];refine kl ?_ ho hex hd hel1 hmem1 hb1' hfits hxl ?_
   ·intro b s₁ Q' hq;cases b <;> first|exact wpAny_pure hq|exact wpAny_rule hq
   ·intro h' hsb hS';dsimp only;exact wpAny_pure (hend h' hsb hS')
end
section
open PyProof.Rows
variable {prog:Program}{w:World}{A:Around}{R:Result->Shared->Prop}{I:Addr}{fp wr:List Addr}{G:Array GenState->Array GenState->Prop}{n:Nat}{P:Nat->Value->Prop}{St:Nat->Shared->Prop}
theorem vf(W:WalksS prog w A.in1 I fp wr G n P St)(S:Addr)(hSf:S∉fp)
  (val:Nat->Int) (hval:∀i v,P i v->∃t,v=.int (val i) t) (hb:n+1<scanBound) :
  ∀(k i:Nat) (s:Shared),n-i=k->i<=n->St i s ->
   s.heap.SetV (intKind prog w) S (λk'=>(firstMet val i).any (· == k')) (firstMet val i).length ->
   (∀s',Moved (S::wr) G s s'->s'.heap.SetV (intKind prog w) S (λk'=>(firstMet val n).any (· == k')) (firstMet val n).length->R (.ok (.ret .none)) s') ->
   codeAny (model prog w) A (.builtin "set.update.loop" ⟨[.ref S,.ref I],[]⟩) R s:=by
 have hSw:S∉wr:=λh=>hSf (W.sub _ h);have hsub:∀b∈wr,b∈S::wr:=λb hb=>List.mem_cons_of_mem _ hb;intro k
 induction k with
 |zero=>
  intro i s hk hi hst hS hR;have hin:i=n:=by omega
  subst hin;refine codeAny_builtin PyProof.Rows.F.entry_set_update_loop ?_;rw[Around.under_plainId PyProof.Rows.F.plain_set_update_loop _];show wpAny _ A.in1 (pyNext (.ref I) >>= _) _ _ s;refine wpAny_bind (W.done s _ _ hst λs' hm=>?_);show wpAny _ A.in1 (ret Value.none) _ _ s';exact wpAny_pure (hR s' (hm.mono hsub) (by
   obtain⟨o,es,ep,t,ho,rest⟩:=hS;exact⟨o,es,ep,t,hm.heap S _ hSw ho,rest⟩))
 |succ k ih=>
  intro i s hk hi hst hS hR;have hlt:i<n:=by omega
  refine codeAny_builtin PyProof.Rows.F.entry_set_update_loop ?_;rw[Around.under_plainId PyProof.Rows.F.plain_set_update_loop _];show wpAny _ A.in1 (pyNext (.ref I) >>= _) _ _ s;refine wpAny_bind (W.item i s _ _ hlt hst λv s' hP hst' hm=>?_);obtain⟨t,rfl⟩:=hval i v hP;have hS':s'.heap.SetV (intKind prog w) S (λk'=>(firstMet val i).any (· == k')) (firstMet val i).length:=by
   obtain⟨o,es,ep,tb,ho,rest⟩:=hS;exact⟨o,es,ep,tb,hm.heap S _ hSw ho,rest⟩
  show wpAny _ A.in1 (holding [Value.int (val i) t] (setAdd S (.int (val i) t)) >>= _) _ _ s';refine wpAny_bind (wpAny_holding ?_);unfold setAdd;refine wpAny_holding ?_;refine wpAny_bind ((intKind prog w).pyHash (k:=val i) (intKind_is _ _ _ _) ?_);have hroom:(firstMet val i).length+1<scanBound:=by have:=firstMet_length_le val i;omega
  refine qg (knd:=intKind prog w) (s:={ s' with toks:=s'.toks+1 }) (intKind_is _ _ _ _) rfl hS' hroom λh' hsb hS2=>?_;have hSi:h'.SetV (intKind prog w) S (λk'=>(firstMet val (i+1)).any (· == k')) (firstMet val (i+1)).length :=
   zhl hS2 (λk'=>by rw[firstMet_succ,step_any]) (by rw[firstMet_succ,step_length])
  refine wpAny_pure ⟨plainId_quiet PyProof.Rows.F.plain_set_update_loop _,ih (i+1) _ (by omega) hlt (W.frame _ s' _ _ hst' (Nat.le_succ _) λb hb o e=>?_) hSi λs'' hm'' hS''=>?_⟩
  ·rw[hsb.2 b (λh:b=S=>hSf (by rw[<-h];exact hb))];exact e
  ·refine hR s'' (Moved.trans W.gtrans ((hm.mono hsub).then_heap (Nat.le_succ _) λb o hb e=>?_) hm'') hS'';rw[hsb.2 b (λh:b=S=>hb (by rw[h];exact List.mem_cons_self))];exact e
end
section
variable {prog:Program}{w:World}{A:Around}{E:Value->Shared->Prop}{s:Shared}
theorem zbq(a:Value){Q₁:Value->Shared->Prop}
  (h:Q₁ (.ref s.heap.objs.size) { s with heap:=s.heap.push { cls:=.type "set",dict:=none,data:=.set #[] 0 (.fresh 0 0 (!w.params.followText "set-order")) } }) :
  codeAny (model prog w) A (.call (.builtin "set.__new__") ⟨[.type "set",a],[]⟩) (wants Q₁ E) s:=by
 refine codeAny_of_tree ?_;show wpAny _ A.in1 (do checkBuiltinCall "set.__new__" ⟨[.type "set",a],[]⟩;again (.builtin "set.__new__" ⟨[.type "set",a],[]⟩)) _ _ s;refine wpAny_bind (wpAny_of_eq (F.newCall_set_1 a) (wpAny_pure ⟨plainId_quiet F.plain_set_new _,codeAny_builtin F.entry_set_new ?_⟩));rw[Around.under_plainId F.plain_set_new _];unfold Builtin.«set.__new__» Builtin.Frozenset.newClass;have hsub:=sub_set_self;obtain⟨hp,g,d,tk,os⟩:=s;dsimp only
 wp_walk
 refine wpAny_askSetting (wpAny_pure ?_);dsimp only;simp only[newObj];refine wpAny_bind (wpAny_alloc (wpAny_pure ?_));exact wpAny_pure h
end
end PySem
namespace PySem
namespace F
theorem slot_set_iterator_next:Slot "set_iterator" "__next__" "set_iterator.__next__" :=
 .of (owner := "set_iterator") (n := "__next__") (by rw[typeLookup_type,builtinLookup_eq_fast];kernel_rfl) (by decide +kernel) (by decide +kernel) (by decide +kernel)
  (by first|exact .inl (by decide +kernel)|exact .inr (by decide +kernel)) (by rw[isSubtype_type];kernel_rfl)
theorem entry_set_iterator_next:entryFor table "set_iterator.__next__" = some Builtin.«set_iterator.__next__»:=entryFor_of_tree (by kernel_rfl)
theorem args_set_iterator_next_1(a:Value):argsOk "set_iterator.__next__" ⟨[a],[]⟩:=by
 unfold argsOk;kernel_rfl
theorem entry_set_iter:entryFor table "set.__iter__" = some Builtin.«frozenset.__iter__» :=
 entryFor_alias (id' := "frozenset.__iter__") (by kernel_rfl) rfl (by decide +kernel) (by kernel_rfl)
theorem slot_set_iterator_iter:Slot "set_iterator" "__iter__" "set_iterator.__iter__" :=
 .of (owner := "set_iterator") (n := "__iter__") (by rw[typeLookup_type,builtinLookup_eq_fast];kernel_rfl) (by decide +kernel) (by decide +kernel) (by decide +kernel)
  (by first|exact .inl (by decide +kernel)|exact .inr (by decide +kernel)) (by rw[isSubtype_type];kernel_rfl)
theorem entry_set_iterator_iter:entryFor table "set_iterator.__iter__" = some Builtin.«dict_keyiterator.__iter__» :=
 entryFor_alias (id' := "dict_keyiterator.__iter__") (by kernel_rfl) (by first|rfl|decide +kernel |(unfold String.splitOn;simp +decide [String.splitOnAux])) (by decide +kernel) (by kernel_rfl)
theorem args_set_iterator_iter_1(a:Value):argsOk "set_iterator.__iter__" ⟨[a],[]⟩:=by
 unfold argsOk;kernel_rfl
end F
section
variable {prog:Program}{w:World}{A:Around}{E:Value->Shared->Prop}{s:Shared}{a:Addr}{o:Obj}{es:Array (Int×Value)}{ep:Nat}{t:SetTable}
theorem vy{slot given then_:Nat}{Q:Option (Value×Nat)->Shared->Prop}(ho:s.heap.get? a=some o)(hd:o.data=.set es ep t)(hf:t.fits es.size=true)(hT:w.params.followText "set-order" = false)(hp:(!t.plain && decide (es.size > 1))=false)(hl:t.led=true)
  (h:Q (match es[SetTable.below t.place slot]?,t.place[SetTable.below t.place slot]? with|some (_,x),some j=>some (x,j+1)|_,_=>none) s):wpAny (model prog w) A (setNext a slot given then_) Q E s:=by
 unfold setNext;refine wpAny_bind (wpAny_setState_of ho hd hf ?_);dsimp only;unfold setsByText;refine wpAny_bind (wpAny_bind (wpAny_askSetting (wpAny_pure ?_)));refine wpAny_ite_split (λhab=>absurd (show w.params.followText "set-order" = true from hab) (by rw[hT];decide)) (λ_=>?_);refine wpAny_ite_split (λhab=>absurd (show(!t.plain && decide (es.size > 1))=true from hab) (by rw[hp];decide)) (λ_=>?_);refine wpAny_bind ?_;show wpAny _ _ (if (!t.led && !es.isEmpty)=true then unsupported _ else pure ()) _ _ _;rw[hl];exact wpAny_pure (wpAny_pure h)
theorem qv{slot given then_:Nat}{Q:Option (Value×Nat)->Shared->Prop}(ho:s.heap.get? a=some o)(hd:o.data=.set es ep t)(hf:t.fits es.size=true)(hT:w.params.followText "set-order" = true)(he:then_=ep)
  (h:Q (((pickOrder (w.params.setOrder a ep) es)[given]?).map λe=>(e.2,slot)) s):wpAny (model prog w) A (setNext a slot given then_) Q E s:=by
 unfold setNext;refine wpAny_bind (wpAny_setState_of ho hd hf ?_);dsimp only;unfold setsByText;refine wpAny_bind (wpAny_bind (wpAny_askSetting (wpAny_pure ?_)));refine wpAny_ite_split (λ_=>?_) (λhab=>absurd (show w.params.followText "set-order" = true from hT) hab);refine wpAny_ite_split (λhab=>absurd hab (by rw[he];simp)) (λ_=>?_);refine wpAny_bind ?_;unfold setWalk;refine wpAny_bind (wpAny_setState_of ho hd hf ?_);dsimp only;unfold setsByText;refine wpAny_bind (wpAny_bind (wpAny_askSetting (wpAny_pure ?_)));refine wpAny_ite_split (λ_=>?_) (λhab=>absurd (show w.params.followText "set-order" = true from hT) hab);exact wpAny_bind (wpAny_askSetting (wpAny_pure (wpAny_pure h)))
end
end PySem
namespace PySem
section
variable {prog:Program}{w:World}{A:Around}{E:Value->Shared->Prop}{s:Shared}{a:Addr}{o:Obj}{es:Array (Int×Value)}{ep:Nat}{t:SetTable}
def IsSI(h:Heap)(I:Addr)(fs:Array Value):Prop:=∃u,h.get? I=some u/\u.cls=.type "set_iterator" /\ u.data=.fields fs
theorem IsSI.ty{I:Addr}{fs:Array Value}(h:IsSI s.heap I fs):s.TypeIs (.ref I) "set_iterator" := let ⟨u,hu,hc,_⟩:=h;⟨u,hu,hc⟩
theorem ziw{I:Addr}{i slot nx:Nat}{x:Value}{Q:Option Value->Shared->Prop}(hit:IsSI s.heap I #[rawInt slot,rawInt i,.ref a,rawInt es.size,rawInt ep])(ho:s.heap.get? a=some o)(hd:o.data=.set es ep t)(hf:t.fits es.size=true)
  (hn:∀(A':Around) (E':Value->Shared->Prop) (Q':Option (Value×Nat)->Shared->Prop),Q' (some (x,nx)) s->wpAny (model prog w) A' (setNext a slot i ep) Q' E' s)
  (hQ:∀h',IsSI h' I #[rawInt nx,rawInt (i+1:Nat),.ref a,rawInt es.size,rawInt ep]->Heap.SameBut I s.heap h'->Q (some x) { s with heap:=h' }):wpAny (model prog w) A (pyNext (.ref I)) Q E s:=by
 obtain⟨u,hu,hc,hdu⟩:=id hit;unfold pyNext;refine wpAny_bind (wpAny_attempt (wpAny_callSpecial?_slot (name:=Str.ofString "__next__") hit.ty F.slot_set_iterator_next
  (wpAny_call_entry F.slot_set_iterator_next hit.ty F.entry_set_iterator_next ?_ (F.args_set_iterator_next_1 _))))
 show wpAny _ _ (fieldsOf (.ref I) >>= _) _ _ s;refine wpAny_bind (wpAny_fieldsOf hu hdu ?_);show wpAny _ _ (setEntries a >>= _) _ _ s;refine wpAny_bind (wpAny_setEntries_of ho hd hf ?_);refine wpAny_ite_split (λhab=>absurd hab (by simp[rawInt])) (λ_=>?_);show wpAny _ _ (setNext a ((slot:Int).toNat) ((i:Int).toNat) ((ep:Int).toNat) >>= _) _ _ s;simp only[Int.toNat_natCast];refine wpAny_bind (hn _ _ _ ?_);dsimp only;refine wpAny_bind (wpAny_setField hu hdu (by simp) ?_);have h1:=Heap.get?_update_self (Obj.mapFields λv=>v.setIfInBounds 0 (rawInt (nx:Int))) hu (Obj.isFreed_of_fields (Obj.data_mapFields hdu _));refine wpAny_bind (wpAny_setField h1 (Obj.data_mapFields hdu _) (by simp) ?_);refine wpAny_pure ⟨x,rfl,wpAny_pure (hQ _ ?_ ((Heap.SameBut.update ..).trans (Heap.SameBut.update ..)))⟩;refine⟨_,Heap.get?_update_self _ h1 (Obj.isFreed_of_fields (Obj.data_mapFields (Obj.data_mapFields hdu _) _)),(Obj.cls_mapFields ..).trans ((Obj.cls_mapFields ..).trans hc),?_⟩;rw[Obj.data_mapFields (Obj.data_mapFields hdu _)];simp[rawInt]
theorem zix{I:Addr}{fs:Array Value}{u:Obj}{Q:Option Value->Shared->Prop}(hh:A.handled=none)(hu:s.heap.get? I=some u)(hdu:u.data=.fields fs)(hs:2<fs.size)
  (hQ:∀h',Heap.ExtBut I s.heap h'->Q none { s with heap:=h' }) :
  wpAny (model prog w) A.in1 (do setField (.ref I) 2 .none;raiseNew (<-newExc (.type "StopIteration") []):Sem Fin) (λfin s'=>∃v,fin=Fin.done (Flow.ret v)/\wpAny (model prog w) A (pure (some v)) Q E s')
  (λe s'=>wpAny (model prog w) A (do if <-isInstance e (Value.type "StopIteration") then pure none else throw e) Q E s') s:=by
 refine wpAny_bind (wpAny_setField hu hdu hs ?_);show wpAny _ _ (newExc (.type "StopIteration") [] >>= _) _ _ _;refine wpAny_bind ?_;simp only[newExc,newTuple];refine wpAny_bind (wpAny_newObj_type ?_ (by size_fits));refine wpAny_bind (m:=firstArgMember _ _) (wpAny_of_eq (a:=Value.none) (by first|rfl |(simp only[firstArgMember];rfl)) ?_);refine wpAny_newObj_type ?_ (by size_fits);simp only[raiseNew];refine wpAny_bind (wpAny_handled ?_)
 first|rw[show A.in1.handled=none from hh]|rw[hh]
 refine wpAny_bind (wpAny_pure (wpAny_throw ?_));refine wpAny_bind (wpAny_isInstance (T := "StopIteration") (b:=true) ⟨_,Heap.get?_push_size _ rfl,rfl⟩ isSubtype_stop ?_);exact wpAny_pure (hQ _ (((Heap.SameBut.update ..).extBut.push _).push _))
theorem ziy{I:Addr}{i slot:Nat}{Q:Option Value->Shared->Prop}(hh:A.handled=none)(hit:IsSI s.heap I #[rawInt slot,rawInt i,.ref a,rawInt es.size,rawInt ep])(ho:s.heap.get? a=some o)(hd:o.data=.set es ep t)(hf:t.fits es.size=true)
  (hn:∀(A':Around) (E':Value->Shared->Prop) (Q':Option (Value×Nat)->Shared->Prop),Q' none s->wpAny (model prog w) A' (setNext a slot i ep) Q' E' s)
  (hQ:∀h',Heap.ExtBut I s.heap h'->Q none { s with heap:=h' }):wpAny (model prog w) A (pyNext (.ref I)) Q E s:=by
 obtain⟨u,hu,hc,hdu⟩:=id hit;unfold pyNext;refine wpAny_bind (wpAny_attempt (wpAny_callSpecial?_slot (name:=Str.ofString "__next__") hit.ty F.slot_set_iterator_next
  (wpAny_call_entry F.slot_set_iterator_next hit.ty F.entry_set_iterator_next ?_ (F.args_set_iterator_next_1 _))))
 show wpAny _ _ (fieldsOf (.ref I) >>= _) _ _ s;refine wpAny_bind (wpAny_fieldsOf hu hdu ?_);show wpAny _ _ (setEntries a >>= _) _ _ s;refine wpAny_bind (wpAny_setEntries_of ho hd hf ?_);refine wpAny_ite_split (λhab=>absurd hab (by simp[rawInt])) (λ_=>?_);show wpAny _ _ (setNext a ((slot:Int).toNat) ((i:Int).toNat) ((ep:Int).toNat) >>= _) _ _ s;simp only[Int.toNat_natCast];refine wpAny_bind (hn _ _ _ ?_);exact zix hh hu hdu (by simp) hQ
theorem zoo{I tp:Addr}{i p:Nat}{ps:Array Value}{e:Int×Value}{Q:Option Value->Shared->Prop}(hit:IsSI s.heap I #[.ref tp,rawInt i,.ref a,rawInt es.size,rawInt ep])(ht:s.heap.IsTuple tp ps)(hp:ps[i]?=some (rawInt p))(he:es[p]?=some e)
  (ho:s.heap.get? a=some o) (hd:o.data=.set es ep t) (hf:t.fits es.size=true)
  (hQ:∀h',IsSI h' I #[.ref tp,rawInt (i+1:Nat),.ref a,rawInt es.size,rawInt ep]->Heap.SameBut I s.heap h'->Q (some e.2) { s with heap:=h' }):wpAny (model prog w) A (pyNext (.ref I)) Q E s:=by
 obtain⟨u,hu,hc,hdu⟩:=id hit;obtain⟨ot,hot,_,nt,hdt⟩:=ht;unfold pyNext;refine wpAny_bind (wpAny_attempt (wpAny_callSpecial?_slot (name:=Str.ofString "__next__") hit.ty F.slot_set_iterator_next
  (wpAny_call_entry F.slot_set_iterator_next hit.ty F.entry_set_iterator_next ?_ (F.args_set_iterator_next_1 _))))
 show wpAny _ _ (fieldsOf (.ref I) >>= _) _ _ s;refine wpAny_bind (wpAny_fieldsOf hu hdu ?_);show wpAny _ _ (setEntries a >>= _) _ _ s;refine wpAny_bind (wpAny_setEntries_of ho hd hf ?_);refine wpAny_ite_split (λhab=>absurd hab (by simp[rawInt])) (λ_=>?_);show wpAny _ _ (seqItems? (.ref tp) >>= _) _ _ s;refine wpAny_bind (wpAny_seqItems hot hdt ?_);simp only[Int.toNat_natCast,hp,rawInt];unfold setNextDrawn;refine wpAny_bind (wpAny_bind (wpAny_setState_of ho hd hf ?_));refine wpAny_ite_split (λhab=>absurd hab (by simp)) (λ_=>?_);simp only[he];refine wpAny_pure ?_;refine wpAny_bind (wpAny_setField hu hdu (by simp) (wpAny_pure ⟨e.2,rfl,wpAny_pure (hQ _ ?_ (Heap.SameBut.update ..))⟩));exact⟨_,Heap.get?_update_self _ hu (Obj.isFreed_of_fields (Obj.data_mapFields hdu _)),(Obj.cls_mapFields ..).trans hc,by
  rw[Obj.data_mapFields hdu];simp[rawInt]⟩
theorem zop{I tp:Addr}{i:Nat}{ps:Array Value}{Q:Option Value->Shared->Prop}(hh:A.handled=none)(hit:IsSI s.heap I #[.ref tp,rawInt i,.ref a,rawInt es.size,rawInt ep])(ht:s.heap.IsTuple tp ps)(hp:ps[i]?=none)
  (ho:s.heap.get? a=some o) (hd:o.data=.set es ep t) (hf:t.fits es.size=true)
  (hQ:∀h',Heap.ExtBut I s.heap h'->Q none { s with heap:=h' }):wpAny (model prog w) A (pyNext (.ref I)) Q E s:=by
 obtain⟨u,hu,hc,hdu⟩:=id hit;obtain⟨ot,hot,_,nt,hdt⟩:=ht;unfold pyNext;refine wpAny_bind (wpAny_attempt (wpAny_callSpecial?_slot (name:=Str.ofString "__next__") hit.ty F.slot_set_iterator_next
  (wpAny_call_entry F.slot_set_iterator_next hit.ty F.entry_set_iterator_next ?_ (F.args_set_iterator_next_1 _))))
 show wpAny _ _ (fieldsOf (.ref I) >>= _) _ _ s;refine wpAny_bind (wpAny_fieldsOf hu hdu ?_);show wpAny _ _ (setEntries a >>= _) _ _ s;refine wpAny_bind (wpAny_setEntries_of ho hd hf ?_);refine wpAny_ite_split (λhab=>absurd hab (by simp[rawInt])) (λ_=>?_);show wpAny _ _ (seqItems? (.ref tp) >>= _) _ _ s;refine wpAny_bind (wpAny_seqItems hot hdt ?_);simp only[Int.toNat_natCast,hp];have h1:=Heap.get?_update_self (Obj.mapFields λv=>v.setIfInBounds 0 (rawInt 0)) hu (Obj.isFreed_of_fields (Obj.data_mapFields hdu _));refine wpAny_bind (wpAny_setField hu hdu (by simp) ?_);exact zix (s:={ s with heap:=s.heap.update I (Obj.mapFields λv=>v.setIfInBounds 0 (rawInt 0)) }) hh h1 (Obj.data_mapFields hdu _) (by simp) λh' he=>hQ h' λb o hb e=>he b o hb ((Heap.SameBut.update ..).extBut b o hb e)
theorem wm{I:Addr}{fs:Array Value}{Q:Value->Shared->Prop}(hit:IsSI s.heap I fs)(h:Q (.ref I) s):wpAny (model prog w) A (pyIter (.ref I)) Q E s:=by
 refine wpAny_pyIter_slot hit.ty F.slot_set_iterator_iter (wpAny_call_entry F.slot_set_iterator_iter hit.ty F.entry_set_iterator_iter ?_ (F.args_set_iterator_iter_1 _));show wpAny _ _ (ret (.ref I)) _ _ s;exact wpAny_pure ⟨_,rfl, "set_iterator",_,hit.ty,F.slot_set_iterator_next.lookup,h⟩
theorem j5{α:Type}:∀{xs:List α}{i:Nat} (h:i<xs.length),(xs[i]::xs.eraseIdx i).Perm xs
 |x::xs,0,h=>by simp
 |x::xs,i+1,h=>by
  have:=j5 (xs:=xs) (i:=i) (by simpa using h);simp only[List.getElem_cons_succ,List.eraseIdx_cons_succ];exact(List.Perm.swap _ _ _).trans (this.cons x)
theorem zhm{src:Source}{n:Nat}{Q:Nat->Shared->Prop}(hn:n≠0)(h:∀i d',i<n->Q i { s with drawn:=d' }):wpAny (model prog w) A (choose src n) Q E s:=λ_ _ _=>⟨hn,h _ _ (Nat.mod_lt _ (Nat.pos_of_ne_zero hn))⟩
theorem zar{α:Type}:∀(n:Nat) (xs:List α) (s:Shared) (Q:List α->Shared->Prop),n=xs.length->(∀ys d',ys.Perm xs->Q ys { s with drawn:=d' })->wpAny (model prog w) A (drawOrder n xs) Q E s
 |0,xs,s,Q,hn,h=>by
  cases xs with
  |nil=>unfold drawOrder;exact wpAny_pure (h [] s.drawn (List.Perm.refl _))
  |cons x xs=>cases hn
 |n+1,[],s,Q,hn,h=>by cases hn
 |n+1,x::xs,s,Q,hn,h=>by
  unfold drawOrder;refine wpAny_bind (zhm (by simp) λi d' hi=>?_);rw[List.getElem?_eq_getElem hi];dsimp only;refine wpAny_bind (zar n _ _ _ (by rw[List.length_eraseIdx_of_lt hi];simp at hn;simp[hn]) λys d2 p=>wpAny_pure (h _ d2 ?_));exact(p.cons _).trans (j5 hi)
def zas(f:Value)(a:Addr)(n ep:Nat):Obj:={ cls:=.type "set_iterator",data:=.fields #[f,rawInt 0,.ref a,rawInt n,rawInt ep] }
theorem zbf{Q:Value->Shared->Prop}(ho:s.heap.get? a=some o)(hex:o.ExactSet)(hd:o.data=.set es ep t)(hf:t.fits es.size=true)(hz:es.size<=sizeLine)
  (hA:w.params.followText "set-order" = true\/(w.params.followText "set-order" = false/\(!t.plain && decide (es.size > 1))=false)->Q (.ref s.heap.objs.size) { s with heap:=s.heap.push (zas (rawInt 0) a es.size ep) })
  (hB:∀(ys:List Nat) d',ys.Perm (List.range es.size)->Q (.ref (s.heap.objs.size+1)) { s with heap:=(s.heap.push { cls:=.type "tuple",data:=.seq (ys.map λi:Nat=>rawInt i).toArray }).push (zas (.ref s.heap.objs.size) a es.size ep),drawn:=d' }):wpAny (model prog w) A (pyIter (.ref a)) Q E s:=by
 have hT:s.TypeIs (.ref a) "set" :=⟨o,ho,hex.1⟩
 refine wpAny_pyIter_slot hT F.slot_set_iter (wpAny_call_entry F.slot_set_iter hT F.entry_set_iter ?_ (F.args_set_iter_1 _));unfold Builtin.«frozenset.__iter__»;refine wpAny_bind (m:=Builtin.Frozenset.slot0 _ _) (wpAny_of_eq (a:=a) rfl ?_);unfold Builtin.Frozenset.sizeOf;refine wpAny_bind (wpAny_bind (wpAny_setEntries_of ho hd hf (wpAny_pure ?_)));unfold setDrawn setsByText;refine wpAny_bind (wpAny_bind (wpAny_setState_of ho hd hf ?_));refine wpAny_bind (wpAny_bind (wpAny_askSetting (wpAny_pure ?_)));refine wpAny_pure ?_;dsimp only;refine wpAny_ite_split (λhab=>?_) (λhab=>?_)
 ·refine wpAny_bind (zar _ _ _ _ (by simp) λys d' p=>?_);refine wpAny_bind (wpAny_newTuple ?_ (by rw[List.length_map,p.length_eq,List.length_range];exact hz));have ho1:(s.heap.push { cls:=.type "tuple",data:=.seq (ys.map λi:Nat=>rawInt i).toArray }).get? a=some o:=Heap.get?_push_of_some _ ho;unfold setEpoch;refine wpAny_bind (wpAny_bind (wpAny_setState_of ho1 hd hf (wpAny_pure ?_)));refine wpAny_bind (wpAny_newObj_type (wpAny_pure ⟨_,rfl, "set_iterator",_,⟨_,Heap.get?_push_size _ rfl,rfl⟩,F.slot_set_iterator_next.lookup,?_⟩));have:=hB ys d' p;rw[show(s.heap.push { cls:=.type "tuple",data:=.seq (ys.map λi:Nat=>rawInt i).toArray }).objs.size=s.heap.objs.size+1 from Heap.size_push ..];exact this
 ·refine wpAny_bind (wpAny_pure ?_);unfold setEpoch;refine wpAny_bind (wpAny_bind (wpAny_setState_of ho hd hf (wpAny_pure ?_)));refine wpAny_bind (wpAny_newObj_type (wpAny_pure ⟨_,rfl, "set_iterator",_,⟨_,Heap.get?_push_size _ rfl,rfl⟩,F.slot_set_iterator_next.lookup,?_⟩));refine hA ?_
  cases hb:w.params.followText "set-order" with
  |true=>exact .inl rfl
  |false=>
   refine .inr ⟨rfl,?_⟩;have h2:¬ ((!(w.params.followText "set-order")) && (!t.plain && decide (es.size > 1)))=true:=hab;rw[hb]at h2;simpa using h2
end
end PySem
namespace SV
open PySem
def sl(t:SetTable)(i:Nat):Nat:=if i=0 then 0 else t.place.getD (i-1) 0+1
theorem bel_sl{t:SetTable}(h:Ris t.place){i:Nat}(hi:i<=t.place.size):SetTable.below t.place (sl t i)=i:=by
 have b:=zbd h (sl t i);have h1:¬ SetTable.below t.place (sl t i)<i:=λc=>by
  have h2:=b.hi _ (Nat.le_refl _) (by omega);unfold sl at h2;rw[if_neg (by omega)]at h2
  by_cases e:SetTable.below t.place (sl t i)=i-1
  ·unfold sl at e;rw[if_neg (by omega)]at e;rw[e]at h2;omega
  ·have h3:=h.lt (i:=SetTable.below t.place (sl t i)) (j:=i-1) (by omega) (by omega);unfold sl at h3;rw[if_neg (by omega)]at h3;omega
 have h4:¬ i<SetTable.below t.place (sl t i):=λc=>by
  have h2:=b.lo i c;have hs:i<t.place.size:=by have:=b.le;omega
  unfold sl at h2
  by_cases z:i=0
  ·rw[if_pos z]at h2;omega
  ·rw[if_neg z]at h2;have h3:=h.lt (i:=i-1) (j:=i) (by omega) hs;omega
 omega
theorem ziz{α:Type}{next:Nat->Nat}:∀(fuel k:Nat) (left:List α) (out:Array α),fuel=left.length->(pickOrder.go next fuel k left out).toList.Perm (out.toList++left)
 |0,k,left,out,h=>by
  cases left with
  |nil=>simp[pickOrder.go]
  |cons x l=>cases h
 |fuel+1,k,left,out,h=>by
  have hi:next k % left.length<left.length:=Nat.mod_lt _ (by omega);unfold pickOrder.go;rw[List.getElem?_eq_getElem hi];dsimp only;refine(ziz fuel (k+1) _ _ (by rw[List.length_eraseIdx_of_lt hi];omega)).trans ?_;rw[Array.toList_push,List.append_assoc];exact List.Perm.append_left _ (j5 hi)
theorem pick_perm{α:Type}(next:Nat->Nat)(xs:Array α):(pickOrder next xs).toList.Perm xs.toList:=by
 have:=ziz (next:=next) xs.size 0 xs.toList #[] (by simp);simpa[pickOrder]using this
end SV
namespace PySem
section
variable {prog:Program}{w:World}{A:Around}{E:Value->Shared->Prop}{s:Shared}{a:Addr}{o:Obj}{es:Array (Int×Value)}{ep:Nat}{t:SetTable}
theorem IsSI.at{h h':Heap}{I:Addr}{fs:Array Value}(x:IsSI h I fs)(e:∀o,h.get? I=some o->h'.get? I=some o):IsSI h' I fs:=let ⟨u,hu,r⟩:=x;⟨u,e _ hu,r⟩
theorem zgc(hh:A.handled=none)(I:Addr)(hne:a≠I)(hd:o.data=.set es ep t)(hf:t.fits es.size=true)(tb:SV.Tb w t)(hT:w.params.followText "set-order" = false)(hp:(!t.plain && decide (es.size > 1))=false):
  Walks prog w A I [I,a] [I] es.size (λi v=>(es.toList.map (·.2))[i]?=some v) (λi h=>i<=es.size/\IsSI h I #[rawInt (SV.sl t i),rawInt i,.ref a,rawInt es.size,rawInt ep]/\h.get? a=some o):=by
 have hs:t.place.size=es.size:=by
  simp only[SetTable.fits,Bool.and_eq_true,beq_iff_eq]at hf;exact hf.1
 have hl:t.led=true:=by rw[tb.2,hT];rfl
 exact{
  sub:=λb hb=>by simp at hb;simp[hb]
  frame:=λ_ _ _ st hk=>⟨st.1,st.2.1.at λo e=>hk I (by simp) o e,hk a (by simp) _ st.2.2⟩
  item:=λi s Q E hi st hQ=>by
   have e0:SetTable.below t.place (SV.sl t i)=i:=SV.bel_sl tb.1 (by omega);have hx:es[i]?=some es[i]:=by simp[hi]
   have hy:t.place[i]?=some (t.place[i]'(by omega)):=by simp[hs,hi]
   refine ziw (x:=es[i].2) (nx:=SV.sl t (i+1)) st.2.1 st.2.2 hd hf (λA' E' Q' q=>vy st.2.2 hd hf hT hp hl ?_) λh' hit' hs'=>?_
   ·rw[e0,hx,hy];have:SV.sl t (i+1)=(t.place[i]'(by omega))+1:=by simp[SV.sl,Array.getD,hs,hi]
    rw[this]at q;exact q
   ·exact hQ _ h' s.toks (by simp[hi]) ⟨by omega,hit',hs'.extBut a _ hne st.2.2⟩ λb o hb e=>hs'.extBut b o (λh=>hb (by simp[h])) e
  done:=λs Q E st hQ=>by
   have e0:SetTable.below t.place (SV.sl t es.size)=es.size:=SV.bel_sl tb.1 (by omega);refine ziy hh st.2.1 st.2.2 hd hf (λA' E' Q' q=>vy st.2.2 hd hf hT hp hl ?_) λh' he'=>hQ h' s.toks λb o hb e=>he' b o (λh=>hb (by simp[h])) e;rw[e0];simpa using q
  self:=λ_ _ _ _ st hQ=>wm st.2.1 hQ }
theorem zhn(hh:A.handled=none)(I:Addr)(hne:a≠I)(hd:o.data=.set es ep t)(hf:t.fits es.size=true)(hT:w.params.followText "set-order" = true):
  Walks prog w A I [I,a] [I] es.size (λi v=>((pickOrder (w.params.setOrder a ep) es).toList.map (·.2))[i]?=some v) (λi h=>IsSI h I #[rawInt 0,rawInt i,.ref a,rawInt es.size,rawInt ep]/\h.get? a=some o):=by
 have hs:(pickOrder (w.params.setOrder a ep) es).size=es.size:=by
  have:=(SV.pick_perm (w.params.setOrder a ep) es).length_eq;simpa using this
 exact{
  sub:=λb hb=>by simp at hb;simp[hb]
  frame:=λ_ _ _ st hk=>⟨st.1.at λo e=>hk I (by simp) o e,hk a (by simp) _ st.2⟩
  item:=λi s Q E hi st hQ=>by
   have hx:(pickOrder (w.params.setOrder a ep) es)[i]?=some ((pickOrder (w.params.setOrder a ep) es)[i]'(by omega)):=by simp[hs,hi]
   refine ziw (slot:=0) (nx:=0) (x:=((pickOrder (w.params.setOrder a ep) es)[i]'(by omega)).2) st.1 st.2 hd hf (λA' E' Q' q=>qv st.2 hd hf hT rfl ?_) λh' hit' hs'=>?_
   ·rw[hx];exact q
   ·exact hQ _ h' s.toks (by simp[hs,hi]) ⟨hit',hs'.extBut a _ hne st.2⟩ λb o hb e=>hs'.extBut b o (λh=>hb (by simp[h])) e
  done:=λs Q E st hQ=>by
   refine ziy (slot:=0) hh st.1 st.2 hd hf (λA' E' Q' q=>qv st.2 hd hf hT rfl ?_) λh' he'=>hQ h' s.toks λb o hb e=>he' b o (λh=>hb (by simp[h])) e;rw[Array.getElem?_eq_none (by omega)];exact q
  self:=λ_ _ _ _ st hQ=>wm st.1 hQ }
theorem zgd(hh:A.handled=none)(I tp:Addr)(hne:a≠I)(hnt:tp≠I)(hd:o.data=.set es ep t)(hf:t.fits es.size=true){ys:List Nat}(hp:ys.Perm (List.range es.size)):
  Walks prog w A I [I,a,tp] [I] es.size (λi v=>((ys.filterMap (es[·]?)).map (·.2))[i]?=some v) (λi h=>IsSI h I #[.ref tp,rawInt i,.ref a,rawInt es.size,rawInt ep]/\h.get? a=some o/\h.IsTuple tp (ys.map λi:Nat=>rawInt i).toArray):=by
 have hl:ys.length=es.size:=by rw[hp.length_eq,List.length_range]
 have hm:∀i (hi:i<ys.length),ys[i] < es.size:=λi hi=>List.mem_range.mp (hp.mem_iff.mp (List.getElem_mem hi));have hfm:∀(zs:List Nat),(∀z∈zs,z<es.size)->∀i (hi:i<zs.length),(zs.filterMap (es[·]?))[i]?=es[zs[i]]?:=λzs=>by
  induction zs with
  |nil=>intro _ i hi;simp at hi
  |cons z zs ih=>
   intro h i hi;have hz:=h z List.mem_cons_self;rw[List.filterMap_cons_some (b:=es[z]) (by simp[hz])]
   cases i with
   |zero=>simp[hz]
   |succ i=>
    have:=ih (λy hy=>h y (List.mem_cons_of_mem _ hy)) i (by simpa using hi);simpa using this
 have hall:∀z∈ys,z<es.size:=λz hz=>List.mem_range.mp (hp.mem_iff.mp hz);exact{
  sub:=λb hb=>by simp at hb;simp[hb]
  frame:=λ_ _ _ st hk=>⟨st.1.at λo e=>hk I (by simp) o e,hk a (by simp) _ st.2.1,st.2.2.at λo e=>hk tp (by simp) o e⟩
  item:=λi s Q E hi st hQ=>by
   have hi':i<ys.length:=by omega
   have hx:es[ys[i]]?=some (es[ys[i]]'(hm i hi')):=by simp[hm i hi']
   refine zoo (p:=ys[i]) (e:=es[ys[i]]'(hm i hi')) st.1 st.2.2 (by simp[hi']) hx st.2.1 hd hf λh' hit' hs'=>?_;refine hQ _ h' s.toks ?_ ⟨hit',hs'.extBut a _ hne st.2.1,st.2.2.extBut hs'.extBut hnt⟩ λb o hb e=>hs'.extBut b o (λh=>hb (by simp[h])) e;rw[List.getElem?_map,hfm ys hall i hi',hx];rfl
  done:=λs Q E st hQ=>zop hh st.1 st.2.2 (by simp;omega) st.2.1 hd hf λh' he'=>hQ h' s.toks λb o hb e=>he' b o (λh=>hb (by simp[h])) e
  self:=λ_ _ _ _ st hQ=>wm st.1 hQ }
end
end PySem
namespace SV
open PySem
theorem zck{ord:List Value}{n:Nat}(hl:ord.length=n){acc:Array Value}(h:ItemsOf (λi v=>ord[i]?=some v) acc n):acc.toList=ord:=by
 obtain⟨h1,h2⟩:=h;refine List.ext_getElem? λi=>?_
 by_cases c:i<acc.size
 ·have e:acc[i]?=some acc[i]:=by simp[c]
  rw[h2 i _ e];simp[c]
 ·rw[List.getElem?_eq_none (by simp;omega),List.getElem?_eq_none (by omega)]
section
variable {prog:Program}{w:World}{A:Around}{E:Value->Shared->Prop}{s:Shared}{a:Addr}{o:Obj}{es:Array (Int×Value)}{ep:Nat}{t:SetTable}
theorem zho(hh:A.handled=none)(ho:s.heap.get? a=some o)(hex:o.ExactSet)(hd:o.data=.set es ep t)(hf:t.fits es.size=true)(tb:Tb w t)(hz:es.size<=sizeLine):
  wpAny (model prog w) A (pyIter (.ref a)) (λv s'=>∃(I:Addr) (h':Heap) (d':_) (fp:List Addr) (P:Nat->Value->Prop) (St:Nat->Heap->Prop),v=.ref I/\s' = { s with heap:=h',drawn:=d' }/\(∀b o,s.heap.get? b=some o->h'.get? b=some o)/\s.heap.objs.size<=I
   /\ Walks prog w A I fp [I] es.size P St/\St 0 h'/\(∀b∈fp,b=a\/s.heap.objs.size<=b)/\∀acc,ItemsOf P acc es.size->acc.toList.Perm (es.toList.map (·.2))) E s:=by
 have la:a<s.heap.objs.size:=Heap.lt_size ho;refine zbf ho hex hd hf hz (λc=>?_) (λys d' p=>?_)
 ·have hne:a≠s.heap.objs.size:=Nat.ne_of_lt la;have g1:IsSI (s.heap.push (zas (rawInt 0) a es.size ep)) s.heap.objs.size #[rawInt 0,rawInt 0,.ref a,rawInt es.size,rawInt ep]:=⟨_,Heap.get?_push_size _ rfl,rfl,rfl⟩
  have g2:(s.heap.push (zas (rawInt 0) a es.size ep)).get? a=some o:=Heap.get?_push_of_some _ ho;have k:∀b o,s.heap.get? b=some o->(s.heap.push (zas (rawInt 0) a es.size ep)).get? b=some o:=λb o e=>Heap.get?_push_of_some _ e;have hfp:∀b ∈ [s.heap.objs.size,a],b=a\/s.heap.objs.size<=b:=λb hb=>by
   simp at hb;rcases hb with rfl|rfl
   ·exact .inr (Nat.le_refl _)
   ·exact .inl rfl
  rcases c with hT |⟨hT,hp⟩
  ·refine⟨_,_,s.drawn,_,_,_,rfl,rfl,k,Nat.le_refl _,zhn hh _ hne hd hf hT,⟨g1,g2⟩,hfp,λacc hacc=>?_⟩;have pm:=SV.pick_perm (w.params.setOrder a ep) es;rw[zck (by rw[List.length_map,pm.length_eq];simp) hacc];exact pm.map _
  ·refine⟨_,_,s.drawn,_,_,_,rfl,rfl,k,Nat.le_refl _,zgc hh _ hne hd hf tb hT hp,⟨Nat.zero_le _,g1,g2⟩,hfp,λacc hacc=>?_⟩;rw[zck (by simp) hacc]
 ·have hne:a≠s.heap.objs.size+1:=Nat.ne_of_lt (Nat.lt_succ_of_lt la)
  have g1:((s.heap.push { cls:=.type "tuple",data:=.seq (ys.map λi:Nat=>rawInt i).toArray }).push (zas (.ref s.heap.objs.size) a es.size ep)).get? (s.heap.objs.size+1)=some (zas (.ref s.heap.objs.size) a es.size ep):=by
   rw[show s.heap.objs.size+1=(s.heap.push { cls:=.type "tuple",data:=.seq (ys.map λi:Nat=>rawInt i).toArray }).objs.size from(Heap.size_push ..).symm];exact Heap.get?_push_size _ rfl
  have k:∀b o,s.heap.get? b=some o->((s.heap.push { cls:=.type "tuple",data:=.seq (ys.map λi:Nat=>rawInt i).toArray }).push (zas (.ref s.heap.objs.size) a es.size ep)).get? b=some o:=λb o e=>Heap.get?_push_of_some _ (Heap.get?_push_of_some _ e);have g3:((s.heap.push { cls:=.type "tuple",data:=.seq (ys.map λi:Nat=>rawInt i).toArray }).push (zas (.ref s.heap.objs.size) a es.size ep)).IsTuple s.heap.objs.size (ys.map λi:Nat=>rawInt i).toArray:=⟨_,Heap.get?_push_of_some _ (Heap.get?_push_size _ rfl),rfl,_,rfl⟩
  refine⟨_,_,d',_,_,_,rfl,rfl,k,Nat.le_succ _,zgd hh _ s.heap.objs.size hne (Nat.ne_of_lt (Nat.lt_succ_self _)) hd hf p,⟨⟨_,g1,rfl,rfl⟩,k _ _ ho,g3⟩,λb hb=>?_,λacc hacc=>?_⟩
  ·simp at hb;rcases hb with rfl|rfl|rfl
   ·exact .inr (Nat.le_succ _)
   ·exact .inl rfl
   ·exact .inr (Nat.le_refl _)
  ·have pm:(ys.filterMap (es[·]?)).Perm es.toList:=by
    have h1:=p.filterMap (es[·]?);have h2:=List.filterMap_getElem?_range_length es.toList;simp only[Array.length_toList,Array.getElem?_toList]at h2;rw[h2]at h1;exact h1
   rw[zck (by rw[List.length_map,pm.length_eq];simp) hacc];exact pm.map _
theorem collect_set{Q:List Value->Shared->Prop}(hh:A.handled=none)(ho:s.heap.get? a=some o)(hex:o.ExactSet)(hd:o.data=.set es ep t)(hf:t.fits es.size=true)(tb:Tb w t)(hz:es.size<=sizeLine)
  (hQ:∀(h':Heap) (d':_) (tk:Nat) (vs:List Value),vs.Perm (es.toList.map (·.2))->(∀b o,s.heap.get? b=some o->h'.get? b=some o)->s.heap.objs.size<h'.objs.size->Q vs { s with heap:=h',drawn:=d',toks:=tk }):wpAny (model prog w) A (collect (.ref a)) Q E s:=by
 have la:a<s.heap.objs.size:=Heap.lt_size ho;have hSI:s.heap.objs.size≠a:=Nat.ne_of_gt la;unfold collect;refine wpAny_bind (wpAny_runValue (codeAny_builtin PySem.F.entry_proto_collect ?_));rw[Around.under_plainId PySem.F.plain_proto_collect _];show wpAny _ A.in1 (newList [] >>= λl=>again (.builtin "list.__iadd__" ⟨[l,.ref a],[]⟩)) _ _ s;refine wpAny_bind (wpAny_newObj_type ?_);refine wpAny_pure ⟨plainId_quiet PySem.F.plain_list_iadd _,codeAny_builtin PySem.F.entry_list_iadd ?_⟩;rw[Around.under_plainId PySem.F.plain_list_iadd _];show wpAny _ A.in1 (Builtin.List.listExtendWith (.ref s.heap.objs.size) (.ref a) (.ref s.heap.objs.size)) _ _ _;unfold Builtin.List.listExtendWith;have ho1:(s.heap.push { cls:=.type "list",data:=.seq ([]:List Value).toArray }).get? a=some o:=Heap.get?_push_of_some _ ho;have hS1:(s.heap.push { cls:=.type "list",data:=.seq ([]:List Value).toArray }).get? s.heap.objs.size=some { cls:=.type "list",data:=.seq ([]:List Value).toArray }:=Heap.get?_push_size _ rfl;refine wpAny_bind (wpAny_typeOf (T := "set") ⟨o,ho1,hex.1⟩ ?_);have h1:Builtin.List.listSameRef (.ref s.heap.objs.size) (.ref a)=false:=by simp[Builtin.List.listSameRef,hSI]
 have h2:(Value.type "set" == Value.type "list")=false:=by decide
 have h3:(Value.type "set" == Value.type "tuple")=false:=by decide
 simp only[h1,h2,h3,Bool.or_false,Bool.false_eq_true,if_false];refine wpAny_bind (wpAny_mono (zho (A:=A.in1) hh ho1 hex hd hf tb hz) ?_ λ_ _ e=>e);rintro v s1 ⟨I,h',d',fp,P,St,rfl,rfl,k,hI,W,st,hfp,hacc⟩;rw[Heap.size_push]at hI hfp;have hSf:s.heap.objs.size∉fp:=λhm=>by
  rcases hfp _ hm with e|e
  ·exact hSI e
  ·omega
 have hS2:=k _ _ hS1;refine wpAny_bind (wpAny_holding ?_);unfold Builtin.List.listLengthHint;refine wpAny_bind (wpAny_specialOf (T := "set") ⟨o,k _ _ ho1,hex.1⟩ PySem.F.slot_set_len.lookup ?_);generalize hid:("set.__len__" : String)=id0
 wp_delta
 rw[show splitId id0=some ("set", "__len__") from by subst hid;decide +kernel];subst hid;refine wpAny_bind (wpAny_isInstance (T := "set") (b:=true) ⟨o,k _ _ ho1,hex.1⟩ (by rw[isSubtype_type];kernel_rfl) ?_);refine wpAny_ite_split (λhab=>absurd hab (by decide)) (λ_=>?_);refine wpAny_ite_split (λ_=>?_) (λhab=>absurd (by decide +kernel) hab);refine wpAny_bind (wpAny_typeOf (T := "set") ⟨o,k _ _ ho1,hex.1⟩ ?_);refine wpAny_pure ?_;refine wpAny_ite_split (λ_=>?_) (λhab=>absurd (by decide +kernel) hab);refine wpAny_bind (wpAny_rule ?_);refine wpAny_bind ?_;show wpAny _ A.in1 (updateSeq s.heap.objs.size (·.push .none) >>= λ_=>updateSeq s.heap.objs.size (·.pop)) _ _ _;refine wpAny_bind (wpAny_updateSeq hS2 rfl ?_);have hS3:=Heap.get?_update_self (Obj.mapSeq (·.push Value.none)) hS2 rfl;refine wpAny_updateSeq hS3 rfl ?_;have hS4:=Heap.get?_update_self (Obj.mapSeq (·.pop)) hS3 rfl;have oth:∀b o,b≠s.heap.objs.size->h'.get? b=some o->((h'.update s.heap.objs.size (Obj.mapSeq (·.push Value.none))).update s.heap.objs.size (Obj.mapSeq (·.pop))).get? b=some o :=
  λb o hb e=>(Heap.get?_update_other _ _ (Ne.symm hb)).trans ((Heap.get?_update_other _ _ (Ne.symm hb)).trans e)
 refine wpAny_pure ⟨plainId_quiet PySem.F.plain_extend_loop _,codeAny_extend_loopS W.toS hz _ hSf _ es.size 0 _ _ _ rfl (Nat.zero_le _) (W.frame 0 h' _ st λb hb o e=>oth b o (λh=>hSf (h ▸ hb)) e) hS4 (ItemsOf.nil P) λs' acc' c' hm hS' ha=>?_⟩;show wpAny _ A (load s.heap.objs.size >>= _) _ _ s';refine wpAny_bind (wpAny_load hS' ?_);rw[Moved.eq_with hm];refine wpAny_pure (hQ _ _ _ _ (hacc _ ha) (λb o e=>?_) (Heap.lt_size hS'));have lb:b<s.heap.objs.size:=Heap.lt_size e;refine hm.heap b o (λhmem=>?_) (oth b o (Nat.ne_of_lt lb) (k b o (Heap.get?_push_of_some _ e)));rcases List.mem_cons.mp hmem with e'|hmem
 ·exact absurd e' (Nat.ne_of_lt lb)
 ·have e2:=List.mem_singleton.mp hmem;rw[e2]at lb;exact absurd (Nat.lt_of_lt_of_le (Nat.lt_of_lt_of_le lb (Nat.le_succ _)) hI) (Nat.lt_irrefl _)
end
end SV
namespace SQ
open PySem PyProof.Rows
theorem IntsAre.mk:∀{us:List Value},(∀v∈us,∃n t,v=.int n t)->∃ns,IntsAre us ns
 |[],_=>⟨[],.nil⟩
 |u::us,h=>by
  obtain⟨n,t,rfl⟩:=h u List.mem_cons_self;obtain⟨ns,e⟩:=IntsAre.mk λv hv=>h v (List.mem_cons_of_mem _ hv);exact⟨n::ns,.cons n t e⟩
section
variable {prog:Program}{w:World}{A:Around}{E:Value->Shared->Prop}{s:Shared}{a:Addr}{o:Obj}{es:Array (Int×Value)}{ep:Nat}{t:SetTable}
end
end SQ
namespace L2
open PySem PySem.Spec PyProof.Rows SQ
theorem zdv:∀{xs ys:List Int},xs.Nodup->(∀x∈xs,x∈ys)->ys.length<=xs.length->ys.Perm xs
 |[],ys,_,_,h=>by
  have:ys = []:=List.length_eq_zero_iff.mp (by simpa using h);subst this;exact .refl _
 |x::xs,ys,hn,hs,h=>by
  obtain⟨h1,h2⟩:=List.nodup_cons.mp hn;have hx:=hs x List.mem_cons_self;have p:=List.perm_cons_erase hx;refine p.trans (List.Perm.cons x (zdv h2 (λz hz=>?_) ?_))
  ·exact(List.mem_erase_of_ne (λe=>h1 (by rw[<-e];exact hz))).mpr (hs z (List.mem_cons_of_mem _ hz))
  ·have:=p.length_eq;simp at this h ⊢;omega
theorem vi(val:Nat->Int):∀i,(firstMet val i).Nodup
 |0=>by rw[firstMet_zero];exact List.nodup_nil
 |i+1=>by
  rw[firstMet_succ];unfold step_dedup
  split
  ·exact vi val i
  ·next c=>
   refine List.nodup_append.mpr ⟨vi val i,by simp,λx hx y hy e=>c ?_⟩
   cases List.mem_singleton.mp hy;exact List.any_eq_true.mpr ⟨x,hx,by simp[e]⟩
theorem zeu(val:Nat->Int)(i:Nat)(x:Int):x∈firstMet val i↔x∈(List.range i).map val:=by
 have:=firstMet_any val i x;constructor
 ·intro h;have h1:(firstMet val i).any (· == x)=true:=List.any_eq_true.mpr ⟨x,h,by simp⟩;rw[this]at h1;obtain⟨y,hy,e⟩:=List.any_eq_true.mp h1;rw[<-eq_of_beq e];exact hy
 ·intro h;have h1:((List.range i).map val).any (· == x)=true:=List.any_eq_true.mpr ⟨x,h,by simp⟩;rw[<-this]at h1;obtain⟨y,hy,e⟩:=List.any_eq_true.mp h1;rw[<-eq_of_beq e];exact hy
theorem zhp(ns:List Int):(List.range ns.length).map (λi=>ns.getD i 0)=ns:=by
 refine List.ext_getElem (by simp) λi h1 h2=>?_;simp[h2]
theorem zml{prog:Program}{w:World}{h:Heap}{a:Addr}{ns:List Int}(hS:h.SetV (intKind prog w) a (λk'=>(firstMet (λi=>ns.getD i 0) ns.length).any (· == k')) (firstMet (λi=>ns.getD i 0) ns.length).length):
  ∃o es ep t ks,h.get? a=some o/\o.ExactSet/\o.data=.set es ep t/\t.fits es.size=true/\SV.Tb w t/\es.size<=ns.length/\IntsAre (es.toList.map (·.2)) ks/\ks.Nodup/\∀x,x∈ks↔x∈ns:=by
 obtain⟨o,es,ep,t,ho,hex,hd,hel,hmem,hb,hf,hn,hx⟩:=hS;have hi:∀v∈es.toList.map (·.2),∃n t,v=Value.int n t:=λv hv=>by
  obtain⟨e,he,rfl⟩:=List.mem_map.mp hv;obtain⟨⟨k,hk,_⟩,_⟩:=hel e he;obtain⟨u,e2⟩:=Value.isInt_shape hk;exact⟨k,u,e2⟩
 obtain⟨ks,hks⟩:=IntsAre.mk hi;have mk:∀{us:List Value}{ks:List Int},IntsAre us ks->∀x,x∈ks↔∃t,Value.int x t∈us:=λ{us ks} h=>by
  induction h with
  |nil=>intro x;simp
  |cons n t h ih=>
   intro x;rw[List.mem_cons,ih];constructor
   ·rintro (rfl |⟨u,hu⟩)
    ·exact⟨t,List.mem_cons_self⟩
    ·exact⟨u,List.mem_cons_of_mem _ hu⟩
   ·rintro ⟨u,hu⟩;rcases List.mem_cons.mp hu with e|hu
    ·cases e;exact .inl rfl
    ·exact .inr ⟨u,hu⟩
 have hmm:∀x,x∈ks↔x∈firstMet (λi=>ns.getD i 0) ns.length:=λx=>by
  rw[mk hks x];have h1:=hmem x;constructor
  ·rintro ⟨u,hu⟩;obtain⟨e,he,e2⟩:=List.mem_map.mp hu;have h2:=h1.mpr ⟨e,he,by rw[e2];exact intKind_is _ _ _ _⟩;obtain⟨y,hy,e3⟩:=List.any_eq_true.mp h2;rw[<-eq_of_beq e3];exact hy
  ·intro hx;obtain⟨e,he,hk⟩:=h1.mp (List.any_eq_true.mpr ⟨x,hx,by simp⟩);obtain⟨u,e2⟩:=Value.isInt_shape hk;exact⟨u,List.mem_map.mpr ⟨e,he,e2⟩⟩
 have lk:ks.length=es.size:=by rw[<-IntsAre.length hks,List.length_map,Array.length_toList]
 have pm:ks.Perm (firstMet (λi=>ns.getD i 0) ns.length):=zdv (vi _ _) (λx hx=>(hmm x).mpr hx) (by omega);refine⟨o,es,ep,t,ks,ho,hex,hd,hf,hx,?_,hks,pm.nodup_iff.mpr (vi _ _),λx=>?_⟩
 ·rw[hn];exact firstMet_length_le _ _
 ·rw[hmm,zeu,zhp]
section
variable {X:Cx}{a:Expr}{p pos p2 pos2:Pos}
def vI:Value->Int
 |.int n _=>n
 |_=>0
theorem zi0{us:List Value}{ks:List Int}(h:IntsAre us ks):us.map vI=ks:=by
 induction h with
 |nil=>rfl
 |cons n t h ih=>rw[List.map_cons,ih];rfl
theorem zkg{us:List Value}{ks:List Int}(h:IntsAre us ks):Vals (ks.map V.int) us:=by
 induction h with
 |nil=>exact .nil
 |cons n t h ih=>exact .cons ⟨t,rfl⟩ ih
theorem Inv.dr{pins:List (Addr×Obj)}{σ:List (Option V)}{H:Hp}{s:Shared}(I:Inv X pins σ H s)(d:Drawn):Inv X pins σ H { s with drawn:=d }:=⟨I.ok,I.os,I.bare,I.base,I.loc,I.cell,I.free,I.freeC,I.pin,I.hok,I.len⟩
end
end L2
namespace SQ
open PySem PyProof.Rows
section
variable {prog:Program}{w:World}{A:Around}{E:Value->Shared->Prop}{s:Shared}{a:Addr}{o:Obj}{es:Array (Int×Value)}{ep:Nat}{t:SetTable}
theorem zkh{Q:Value->Shared->Prop}(hh:A.handled=none)(ho:s.heap.get? a=some o)(hex:o.ExactSet)(hd:o.data=.set es ep t)(hf:t.fits es.size=true)(tb:SV.Tb w t)(hz:es.size<=sizeLine)(hi:∀e∈es.toList,∃n t,e.2=.int n t)
  (h:∀(vs:List Value) (out:Array Keyed) (h':Heap) (d':_) (tk:Nat) (r:Addr) (e:Nat),vs.Perm (es.toList.map (·.2))->out.Perm (pairsOf vs)->SortedToK intK out (pairsOf vs).size->s.heap.objs.size<=r->h'.get? r=some (seqObj "list" (out.map (·.2)) e)->(∀b o,s.heap.get? b=some o->h'.get? b=some o)->Q (.ref r) { s with heap:=h',drawn:=d',toks:=tk }) :
  wpAny (model prog w) A (call (.builtin "sorted") [.ref a]) Q E s:=by
 refine Calls.call_function_entry kind_sorted plain_sorted entry_sorted (args_sorted1 _) ?_;unfold Builtin.«sorted»;refine wpAny_bind (m:=checkCount "sorted" 1 1 _) (wpAny_pure ?_);refine wpAny_bind (SV.collect_set hh ho hex hd hf tb hz λh1 d1 tk vs pv k1 le=>?_);have hl:vs.length=es.size:=by rw[pv.length_eq,List.length_map,Array.length_toList]
 have hiv:∀v∈vs,∃n t,v=.int n t:=λv hv=>by
  obtain⟨e,he,rfl⟩:=List.mem_map.mp (pv.mem_iff.mp hv);exact hi e he
 have hk:∀v∈vs,∃k,intK.keyOf v=some k:=λv hv=>by
  obtain⟨i,t,rfl⟩:=hiv v hv;exact⟨i,rfl⟩
 refine wpAny_bind (wpAny_newList ?_ (by omega));have gL:(h1.push (seqObj "list" vs.toArray 0)).get? h1.objs.size=some (seqObj "list" vs.toArray 0):=Heap.get?_push_size _ rfl;show wpAny _ _ _ _ _ { s with heap:=h1.push (seqObj "list" vs.toArray 0),drawn:=d1,toks:=tk };refine wpAny_bind (wpAny_holding (wpAny_call_entry slot_list_sort ⟨_,gL,rfl⟩ entry_list_sort (zcd (κ:=intK) (kd:=oneType') gL (by omega) (λh' _=>zio) (qc hk) (λh2 h' Q k' q=>?_) λout p1 p2=>⟨_,rfl,?_⟩) (args_list_sort _)))
 ·cases vs with
  |nil=>simp at h2
  |cons u us=>
   cases us with
   |nil=>simp at h2
   |cons u2 us=>
    obtain⟨ns,hn⟩:=IntsAre.mk hiv;rw[keyKind_ints hn];exact wpAny_pure q
 ·refine wpAny_pure ⟨_,rfl,?_⟩;obtain⟨e,he⟩:=sortedHeap_at (n:=0) (out:=out.map (·.2)) gL
  exact h vs out _ d1 tk _ e pv p1 p2 (Nat.le_of_lt le) he λb o z=>by
   have hb:b<h1.objs.size:=Heap.lt_size (k1 b o z);rw[sortedHeap_old (Nat.ne_of_lt hb) (by rw[Heap.size_push];exact Nat.lt_succ_of_lt hb)];exact Heap.get?_push_of_some _ (k1 b o z)
end
end SQ
namespace L2
open PySem PySem.Spec PyProof.Rows SQ
section
variable {X:Cx}{a:Expr}{p pos p2 pos2:Pos}
end
end L2
namespace L2
open PySem PySem.Spec PyProof.Rows
section
variable {X:Cx}{pins:List (Addr×Obj)}{σ:St}{H:Hp}{s:Shared}{P c:Addr}{q:Str}
end
section
variable {X:Cx}{pins:List (Addr×Obj)}{σ:St}{H:Hp}{a it S f:Addr}{xs:List V}{kf:Nat->Int}{kwd:List (Str×Value)}{R:Value->Shared->Prop}
structure zup(X:Cx)(pins:List (Addr×Obj))(σ:St)(H:Hp)(a it S:Addr)(xs:List V)(kf:Nat->Int)(j i:Nat)(H1:Hp)(s:Shared):Prop where
 I:Inv X pins σ H1 s
 sm:Same H H1
 st:s.heap.IsTupleIter it a j
 f1:FpOk X pins H1 it
 f2:FpOk X pins H1 S
 ne:it≠S
 best:∃vb tb c x,s.heap.get? S=some (seqObj "list" #[vb,.int (kf i) tb] c)/\xs[i]?=some x/\RelV x vb
 lt:i<j
 mx:∀j',j' < j->kf j'<=kf i/\(j' < i->kf j' < kf i)
theorem FpOk.at{b:Addr}{H1 H2:Hp}(h:FpOk X pins H1 b)(n:H2 b=none):FpOk X pins H2 b:=⟨n,h.2⟩
theorem FpOk.inv{b:Addr}{H1:Hp}{s:Shared}{h':Heap}{t':Nat}(h:FpOk X pins H1 b)(I:Inv X pins σ H1 s)(k:∀c o,c≠b->s.heap.get? c=some o->h'.get? c=some o):Inv X pins σ H1 { s with heap:=h',toks:=t' } :=
 I.turned k h.1 h.2.1 h.2.2.2.1 h.2.2.2.2.1 h.2.2.2.2.2
end
section
variable {X:Cx}{pins:List (Addr×Obj)}{σ:St}{H:Hp}{a f:Addr}{xs:List V}{kf:Nat->Int}{R:Value->Shared->Prop}{s:Shared}
end
section
variable {X:Cx}{a body:Expr}{ta:DTF}{tb:DTE}{p pos kp kp2 lp cp:Pos}{k:Nat}{P c:Addr}{q y:Str}{params:Arguments}{scope:Scope}{N:List Str}
end
section
variable {X:Cx}{e:Expr}{es:List Expr}{k k':Nat}{x q:Str}{T:Addr}{ps:List Str}{sp:DSp}{t:DTP}{p pos:Pos}
end
section
variable {P:Program}{w:World}{K:PySem.W.Frag}{mg:Str->Option Value}{base:Heap}
end
section
variable {T a:Addr}{K:PySem.W.Frag}{h:Heap}
end
end L2
namespace PySem
open Sem (wp)
section
variable {prog:Program}{w:World}{A:Around}{E:Value->Shared->Prop}{h:Heap}{g:Array GenState}{d:Drawn}{t:Nat}{os:OsState}
variable {nm q:Str}{C N:Addr}{bs bm bmB bmN:List Value}{hdct:Bool}{sn:List Str}{sub:List Value}{ab:Bool}{col:Option Bool}{dd:Option Addr}{k0 k1 k2 k3 k5:Option Value}{B Bn newId nid initId inN:String}
theorem zoq(Fn:ExcBaseFacts Bn newId inN bmN)(hBn:bmB.contains (.type Bn)=true)(F:ExcBaseFacts B nid initId bmB)(T:OwnTail h bmB bm){mN:Str->Option Value}{us:List Value}{fI:Addr}{oI:Obj}{Q:Fin->Shared->Prop}
  (gC:h.get? C=some (excClassObj nm q C N bs bm hdct sn sub ab col dd k0 k1 k2 k3 k5 newId)) (gN:h.Ns N mN) (eI:mN "__init__" = some (.ref fI)) (gI:h.get? fI=some oI) (cI:oI.cls=.type "function") (zu:us.length<=sizeLine)
  (fin:∀h' e,Heap.MadeExcOf h h' e (.ref C) us->wpAny (model prog w) A (call (.ref fI) (.ref e::us)) (λr s'=>r=.none/\Q (.done (.ret (.ref e))) s') E ⟨h',g,d,t,os⟩) :
  wpAny (model prog w) A (Builtin.«type.__call__» ⟨.ref C::us,[]⟩) Q E ⟨h,g,d,t,os⟩:=by
 repeat (first|with_reducible refine wpAny_loadPart_at gC ?_|with_reducible refine wpAny_madeBy_exc gC ?_|wp_step)
 refine codeAny_call_builtin_code (Code.quiet_builtin _ Fn.quiet) (wpAny_check_new_subU Fn hBn T gC ?_);refine codeAny_exc_new_subU Fn hBn F T gC ?_ zu;show wpAny _ _ _ _ _ _;have up:∀b o,h.get? b=some o->((h.push { cls:=.type "tuple",data:=.seq us.toArray }).push { cls:=.ref C,data:=.fields #[.ref h.objs.size,.none,.none,.none,.bool false,.none] }).get? b=some o:=λb o z=>Heap.get?_push_of_some _ (Heap.get?_push_of_some _ z);have gC1:=up _ _ gC;have gI1:=up _ _ gI;have gN1:=gN.keeps up;have T1:=T.keeps up;have ge:((h.push { cls:=.type "tuple",data:=.seq us.toArray }).push { cls:=.ref C,data:=.fields #[.ref h.objs.size,.none,.none,.none,.bool false,.none] }).get? (h.objs.size+1)=some { cls:=.ref C,data:=.fields #[.ref h.objs.size,.none,.none,.none,.bool false,.none] }:=by heap_get
 have self:(Value.ref C::bm).contains (.ref C)=true:=by simp
 unfold isInstance
 repeat (first|with_reducible refine wpAny_loadPart_at ge ?_ |(with_reducible refine wpAny_isSubtype_exc gC1 ?_;rw[self])|wp_step)
 show wpAny _ _ (typeLookup (.ref C) _) _ _ _;refine wpAny_typeLookup_tail gC1 gN1 T1 F.mroIs F.init.lookup ?_;rw[eI];refine wpAny_holding (wpAny_bind ?_);unfold bindSpecial;refine wpAny_bind (wpAny_typeOf (T := "function") ⟨_,gI1,cI⟩ ?_);rw[if_pos (by decide)];refine wpAny_pure (wpAny_bind (wpAny_mono (fin _ (h.objs.size+1) ⟨up,Heap.get?_none_of_le (Nat.le_succ _),h.objs.size,ge,Heap.get?_none_of_le (Nat.le_refl _),?_⟩) (λr s' z=>?_) λ_ _ z=>z))
 ·exact Heap.get?_push_of_some _ (Heap.get?_push_at rfl rfl)
 ·obtain⟨rfl,z⟩:=z
  wp_walk
  exact z
theorem zor(Fn:ExcBaseFacts Bn newId inN bmN)(hBn:bmB.contains (.type Bn)=true)(F:ExcBaseFacts B nid initId bmB)(T:OwnTail h bmB bm){mN:Str->Option Value}{us:List Value}{fI:Addr}{oI:Obj}{Q:Value->Shared->Prop}
  (gC:h.get? C=some (excClassObj nm q C N bs bm hdct sn sub ab col dd k0 k1 k2 k3 k5 newId)) (gN:h.Ns N mN) (eI:mN "__init__" = some (.ref fI)) (gI:h.get? fI=some oI) (cI:oI.cls=.type "function") (zu:us.length<=sizeLine)
  (fin:∀h' e,Heap.MadeExcOf h h' e (.ref C) us->wpAny (model prog w) (A.under (.builtin "type.__call__" ⟨.ref C::us,[]⟩)) (call (.ref fI) (.ref e::us)) (λr s'=>r=.none/\Q (.ref e) s') E ⟨h',g,d,t,os⟩) :
  wpAny (model prog w) A (call (.ref C) us) Q E ⟨h,g,d,t,os⟩:=by
 have l1:=tc_lookup;have l2:=tc_bind (.ref C);have ty:(⟨h,g,d,t,os⟩:Shared).TypeIs (.ref C) "type" :=⟨_,gC,rfl⟩
 refine wpAny_call (codeAny_of_tree ?_);show wpAny _ _ (callAny (.ref C) _) _ _ _
 repeat (any_goals (first|assumption|with_reducible refine wpAny_loadPart_at gC ?_|wp_step))
 refine⟨rfl,?_⟩;exact codeAny_call_builtin_at (Code.quiet_builtin _ (by decide +kernel)) entry_typeCall (wpAny_check_type_call_sub gC (zoq Fn hBn F T gC gN eI gI cI zu λh' e mk=>fin h' e mk))
end
end PySem
namespace PySem
open Sem (wp)
open Builtin Builtin.ObjectAttr
theorem zki{h:Heap}{bmB bm:List Value}(T:OwnTail h bmB bm){self:Value}{wh:Str}(hp:refuseLoop self wh bmB=pure ()):refuseLoop self wh bm=pure ():=by
 induction T with
 |base=>exact hp
 |own _ _ _ _ ih=>rw[refuseLoop_ref];exact ih
section
variable {prog:Program}{w:World}{A:Around}{E:Value->Shared->Prop}{h:Heap}{g:Array GenState}{d:Drawn}{t:Nat}{os:OsState}
variable {nm q:Str}{C N x:Addr}{bs bm bmB:List Value}{sn:List Str}{sub:List Value}{ab:Bool}{col:Option Bool}{dd:Option Addr}{k0 k1 k2 k3 k5:Option Value}{B newId sa owner:String}
 {mA:Str->Option Value}{name:Str}{v:Value}
theorem zmm{M:Model}{o:Obj}{nv:Value}{Q:Unit->Shared->Prop}(SF:StoreFacts B bmB sa owner)(T:OwnTail h bmB bm)
  (gC:h.get? C=some (excClassObj nm q C N bs bm true sn sub ab col dd k0 k1 k2 k3 k5 newId)) (gx:h.get? x=some o) (cx:o.cls=.ref C) (fin:Q () ⟨h,g,d,t,os⟩) :
  wpAny M A (checkBuiltinCall sa ⟨[.ref x,nv,v],[]⟩) Q E ⟨h,g,d,t,os⟩:=by
 have has:(Value.ref C::bm).contains (.type owner)=true:=by rw[List.contains_cons,T.hasType SF.hasOwner,Bool.or_true]
 have args:=SF.args (.ref x) nv v;simp only[checkBuiltinCall,SF.kind,SF.split];refine wpAny_bind ?_;unfold isInstance
 repeat (first |(with_reducible refine wpAny_loadPart_at gx ?_;rw[cx]) |(with_reducible refine wpAny_isSubtype_exc gC ?_;rw[has])|wp_step)
 cases sg:Manifest.signature? sa with
 |none=>exact wpAny_pure fin
 |some z=>
  simp only[argsOk,sg]at args;have e2:Bind.checkArgs sa z ⟨[.ref x,nv,v],[]⟩=pure ():=args;show wpAny M A (Bind.checkArgs sa z ⟨[.ref x,nv,v],[]⟩) Q E _;rw[e2];exact wpAny_pure fin
def zmn(h h':Heap)(x C:Addr)(mA:Str->Option Value):Prop:=h'.Inst x C mA /\
 (∀b o,b≠x->(∀o0 dx,h.get? x=some o0->o0.dict=some dx->b≠dx)->h.get? b=some o->h'.get? b=some o) /\
 (∀o0,h.get? x=some o0->∃o1,h'.get? x=some o1/\o1.cls=o0.cls/\o1.data=o0.data/\o1.slots=o0.slots/\∃dx,o1.dict=some dx/\(∀dy,o0.dict=some dy->dx=dy)/\(o0.dict=none->h.objs.size<=dx))
theorem zmo{tk:Tok}{Q:Fin->Shared->Prop}{ns:List Str}(SF:StoreFacts B bmB sa owner)(T:OwnTail h bmB bm)(hp:refuseLoop (.ref x) "__setattr__" bmB=pure ())
  (gC:h.get? C=some (excClassObj nm q C N bs bm true sn sub ab col dd k0 k1 k2 k3 k5 newId)) (look:PySem.W.Looks (model prog w) h (typeLookup (.ref C) name) none) (I:h.Inst x C mA)
  (fin:∀h' tk',zmn h h' x C (λy=>if y=name then some v else mA y)->Q (.done (.ret .none)) ⟨h',g,d,tk',os⟩) (few:Within mA ns) (sz:ns.length<=1000) :
  wpAny (model prog w) A (Builtin.«object.__setattr__» ⟨[.ref x,.str name tk,v],[]⟩) Q E ⟨h,g,d,t,os⟩:=by
 obtain⟨o,gx,cx,ncl,dct⟩:=I;have pass:=zki T hp;unfold Builtin.«object.__setattr__»
 repeat (first|rw[refuse_eq] |(rw[refuseLoop_ref,pass]) |(with_reducible refine wpAny_loadPart_at gx ?_;rw[cx])|with_reducible refine wpAny_mroOf_exc gC ?_|with_reducible refine look.at ?_|wp_step)
 rcases dct with⟨dn,mn⟩ |⟨dx,ed,ne,nsx⟩
 ·rw[dn,if_neg (by simp[typeHasDict])]
  split
  ·next z=>cases z
  split
  ·next c z=>exact absurd z (ncl c)
  ·have gx1:(h.push { cls:=.type "dict",data:=.dict #[] }).get? x=some o:=Heap.get?_push_of_some _ gx;have xs:x≠h.objs.size:=Nat.ne_of_lt (Heap.lt_size gx);refine wpAny_bind (wpAny_alloc' ?_);refine wpAny_bind (wpAny_update' gx1 ?_);refine wpAny_pure ?_
   have gd:((h.push { cls:=.type "dict",data:=.dict #[] }).update x λo=>{ cls:=o.cls,dict:=some h.objs.size,data:=o.data,slots:=o.slots }).get? h.objs.size=some { cls:=.type "dict",data:=.dict #[] } :=
    (Heap.get?_update_ne _ _ _ _ xs.symm).trans (Heap.get?_push_at rfl rfl)
   have nd:((h.push { cls:=.type "dict",data:=.dict #[] }).update x λo=>{ cls:=o.cls,dict:=some h.objs.size,data:=o.data,slots:=o.slots }).Ns h.objs.size (λ_=>none):=⟨_,#[],_,gd,rfl,λe z=>absurd z (by simp),λ_=>rfl⟩
   show wpAny _ _ (storeInDict h.objs.size (.str name tk) name v) _ _ _;unfold storeInDict newKeyGuard;refine wpAny_bind (wpAny_pure (wpAny_bind (wpAny_nsSet1 (Heap.Ns1.of_empty nd) λh' n1 same=>?_)));obtain⟨oD,esD,epD,gD,dD,cD⟩:=n1.count (Within.cons name v Within.nil);refine wpAny_bind (wpAny_lookBehind gD (by rw[dD];exact pastItsLine_dict (Nat.le_trans cD (by rw[List.length_cons,List.length_nil,sizeLine_eq];omega))) ?_)
   wp_walk
   have gx':h'.get? x=some { cls:=o.cls,dict:=some h.objs.size,data:=o.data,slots:=o.slots }:=by
    refine(same.2 x xs).trans (Heap.get?_update_self _ gx1 ?_);have fr:=(Heap.get?_some_iff.mp gx).2;obtain⟨oc,od,odt,osl⟩:=o
    cases odt <;> first|rfl|exact fr
   refine fin h' _ ⟨⟨{ cls:=o.cls,dict:=some h.objs.size,data:=o.data,slots:=o.slots },gx',cx,ncl,.inr ⟨h.objs.size,rfl,xs.symm,?_⟩⟩,λb ob nb _ gb=>?_,λo0 g0=>?_⟩
   ·obtain⟨o',es,ep,e1,e2,e3,eu,e4⟩:=n1;exact⟨o',es,ep,e1,e2,e3,eu,λy=>by rw[e4 y];by_cases c:y=name <;> simp[c,mn]⟩
   ·exact(same.2 b (Nat.ne_of_lt (Heap.lt_size gb))).trans ((Heap.get?_update_ne _ _ _ _ nb).trans (Heap.get?_push_of_some _ gb))
   ·obtain rfl:o=o0:=Option.some.inj (gx.symm.trans g0);exact⟨_,gx',rfl,rfl,rfl,_,rfl,(λdy e=>by rw[dn]at e;cases e),λ_=>Nat.le_refl _⟩
 ·rw[ed];refine wpAny_pure ?_;show wpAny _ _ (storeInDict dx (.str name tk) name v) _ _ _;unfold storeInDict newKeyGuard;refine wpAny_bind (wpAny_pure (wpAny_bind (wpAny_nsSet1 nsx λh' n1 same=>?_)));obtain⟨oD,esD,epD,gD,dD,cD⟩:=n1.count (Within.cons name v few);refine wpAny_bind (wpAny_lookBehind gD (by rw[dD];exact pastItsLine_dict (Nat.le_trans cD (by rw[List.length_cons,sizeLine_eq];omega))) ?_)
  wp_walk
  exact fin h' _ ⟨⟨o,(same.2 x ne.symm).trans gx,cx,ncl,.inr ⟨dx,ed,ne,n1⟩⟩,λb ob _ nd gb=>(same.2 b (nd o dx gx ed)).trans gb,λo0 g0=>⟨o0,(same.2 x ne.symm).trans g0,rfl,rfl,rfl,dx,by
   obtain rfl:o=o0:=Option.some.inj (gx.symm.trans g0);exact ed,(λdy e=>by
   obtain rfl:o=o0:=Option.some.inj (gx.symm.trans g0);rw[ed]at e;exact Option.some.inj e),λz=>by
   obtain rfl:o=o0:=Option.some.inj (gx.symm.trans g0);rw[ed]at z;cases z⟩⟩
theorem zos{Q:Unit->Shared->Prop}{ns:List Str}(SF:StoreFacts B bmB sa owner)(T:OwnTail h bmB bm)
  (gC:h.get? C=some (excClassObj nm q C N bs bm true sn sub ab col dd k0 k1 k2 k3 k5 newId)) (ls:PySem.W.Looks (model prog w) h (typeLookup (.ref C) "__setattr__") (some (.builtin sa))) (look:PySem.W.Looks (model prog w) h (typeLookup (.ref C) name) none) (I:h.Inst x C mA)
  (fin:∀h' tk',zmn h h' x C (λy=>if y=name then some v else mA y)->Q () ⟨h',g,d,tk',os⟩) (few:Within mA ns) (sz:ns.length<=1000) :
  wpAny (model prog w) A (setAttr (.ref x) name v) Q E ⟨h,g,d,t,os⟩:=by
 obtain⟨o,gx,cx,_⟩:=id I;have b3:=SF.slot.bind (.ref x);unfold setAttr callSpecial? specialOf
 repeat (any_goals (first|assumption |(with_reducible refine wpAny_loadPart_at gx ?_;rw[cx])|with_reducible refine ls.at ?_|wp_step))
 refine codeAny_call_builtin SF.slot.plain SF.entry (zmm SF T gC gx cx (zmo SF T (SF.passes _) gC look I (λh' tk' z=>?_) few sz))
 repeat (any_goals (first|assumption|wp_step))
 exact fin h' tk' z
end
end PySem
namespace PySem
open Sem (wp)
section
variable {M:Model}{A:Around}{E:Value->Shared->Prop}{s:Shared}{env:Env}
variable {nm q:Str}{C N:Addr}{bs bm bmB bmN:List Value}{hdct:Bool}{sn:List Str}{sub:List Value}{ab:Bool}{col:Option Bool}{dd:Option Addr}{k0 k1 k2 k3 k5:Option Value}{B Bn newId nid initId inN:String}
theorem zot{x:Sem Value}{Q:Flow->Shared->Prop}(hb:bm.contains (.type "BaseException")=true)(hh:A.handled=none)
  (h:wpAny M A x (λv s1=>∃e t od,v=.ref e/\s1.heap.get? C=some (excClassObj nm q C N bs bm hdct sn sub ab col dd k0 k1 k2 k3 k5 newId)/\s1.heap.get? e=some { cls:=.ref C,dict:=od,data:=.fields #[.ref t,.none,.none,.none,.bool false,.none] }/\E (.ref e) s1) E s) :
  wpAny M A (raiseStmt env (some x) none) Q E s:=by
 have has:(Value.ref C::bm).contains (.type "BaseException")=true:=by rw[List.contains_cons,hb,Bool.or_true]
 unfold raiseStmt;refine wpAny_bind (wpAny_mono h (λv s1 z=>?_) λ_ _ z=>z);obtain⟨e,t,od,rfl,gC,ge,z⟩:=z;obtain⟨hp,g,d,tk,os⟩:=s1
 repeat (first|with_reducible refine wpAny_loadPart_at ge ?_|with_reducible refine wpAny_loadPart_at gC ?_ |(with_reducible refine wpAny_isSubtype_exc gC ?_;rw[has])|wp_step)
 exact wpAny_raiseNew_none hh z
end
section
variable {prog:Program}{w:World}{A:Around}{E:Value->Shared->Prop}{s:Shared}{env:Env}
variable {nm q:Str}{C N:Addr}{bs bm bmB bmN:List Value}{hdct:Bool}{sn:List Str}{sub:List Value}{ab:Bool}{col:Option Bool}{dd:Option Addr}{k0 k1 k2 k3 k5:Option Value}{B Bn newId nid initId inN:String}
theorem zmp(Fn:ExcBaseFacts Bn newId inN bmN)(hBn:bmB.contains (.type Bn)=true)(F:ExcBaseFacts B nid initId bmB){x:Str}{np cpos pos:Pos}{args:List Expr}{fI:Addr}{oI:Obj}{Q:Flow->Shared->Prop}
  (hb:bm.contains (.type "BaseException")=true) (hh:A.handled=none) (hp:(backTo cpos (starEach args env)).any (·.1)=false) (cI:oI.cls=.type "function")
  (h:wpAny (model prog w) A (eval (.Name x np) env) (λf s1=>f=.ref C/\wpAny (model prog w) A (evalArgs (.ref C) true (backTo cpos (starEach args env)) [])
   (λa s2=>a.kw = []/\a.pos.length<=sizeLine/\s2.heap.get? C=some (excClassObj nm q C N bs bm hdct sn sub ab col dd k0 k1 k2 k3 k5 newId)/\(∃mN:Str->Option Value,s2.heap.Ns N mN/\mN "__init__" = some (.ref fI))/\OwnTail s2.heap bmB bm/\s2.heap.get? fI=some oI /\
    ∀h' e,Heap.MadeExcOf s2.heap h' e (.ref C) a.pos->wpAny (model prog w) (A.under (.builtin "type.__call__" ⟨.ref C::a.pos,[]⟩)) (call (.ref fI) (.ref e::a.pos))
     (λr s3=>r=.none/\s3.heap.get? C=some (excClassObj nm q C N bs bm hdct sn sub ab col dd k0 k1 k2 k3 k5 newId)/\(∃t od,s3.heap.get? e=some { cls:=.ref C,dict:=od,data:=.fields #[.ref t,.none,.none,.none,.bool false,.none] })/\E (.ref e) s3) E { s2 with heap:=h' }) E s1) E s) :
  wpAny (model prog w) A (exec (.Raise (some (.Call (.Name x np) args [] cpos)) none pos) env) Q E s:=by
 rw[arm_exec_Raise];refine wpAny_bind (wpAny_standAt (zot (C:=C) (nm:=nm) (q:=q) (N:=N) (bs:=bs) (bm:=bm) (hdct:=hdct) (sn:=sn) (sub:=sub) (ab:=ab) (col:=col) (dd:=dd) (k0:=k0) (k1:=k1) (k2:=k2) (k3:=k3) (k5:=k5) (newId:=newId) hb hh (wpAny_bind (wpAny_mono (wpAny_Call_ofName (wpAny_mono h (λf s1 z=>?_) λ_ _ z=>z)) (λv s3 z=>wpAny_bind (wpAny_standAt (wpAny_pure z))) λ_ _ z=>z))));obtain⟨rfl,z⟩:=z;unfold callWith;refine wpAny_bind (wpAny_holding (wpAny_mono z (λa s2 z2=>wpAny_bind (wpAny_standAt ?_)) λ_ _ z=>z));obtain⟨apos,akw⟩:=a;obtain⟨ek,zl,gC,⟨mN,gN,eI⟩,T,gI,z2⟩:=z2;obtain rfl:akw = []:=ek;obtain⟨hp2,g,d,tk,os⟩:=s2;simp only[hp];refine wpAny_bind (wpAny_keeperOf_exc gC ?_);refine wpAny_bind (zor Fn hBn F T gC gN eI gI cI zl λh' e mk=>wpAny_mono (z2 h' e mk) (λr s3 y=>?_) λ_ _ y=>y);obtain⟨rfl,gC3,⟨t,od,ge⟩,y⟩:=y;exact⟨rfl,wpAny_bind (wpAny_holding (wpAny_point (wpAny_pure ⟨e,t,od,rfl,gC3,ge,y⟩)))⟩
end
end PySem
namespace L2
open PySem PySem.Spec PyProof.Rows
def zcl(K:PySem.W.Frag)(C:Addr)(bmB:List Value)(newId:String)(fI:Addr):Bool:=match K.lookup C with
 |some ⟨.type "type",_,.cls cd,sl⟩=>(match cd.mro,sl.toList with
  |.ref C'::bm,[_,_,_,_,some (.builtin n),_]=>C' == C && n == newId && !cd.hasDel && cd.hasDict && PySem.W.tailIn K bmB bm && PySem.W.nsOkIn K cd.ns && PySem.W.nsIn K cd.ns "__init__" == some (some (.ref fI))
  |_,_=>false)
 |_=>false
theorem zmq{K:PySem.W.Frag}{h:Heap}{N:Addr}{m:Str->Option Value}{n:Str}{v:Value}(X:K.In h)(G:h.Ns N m)(e:PySem.W.nsIn K N n=some (some v)):m n=some v:=by
 obtain⟨o,es,ep,ho,hd,_,hf⟩:=G;unfold PySem.W.nsIn at e
 split at e
 ·next cc dd es' n' sl z=>
  have y:=X _ _ z;rw[ho]at y
  cases y
  cases hd
  split at e
  ·next en he=>
   cases e;rw[<-hf];unfold nsFind findBy;rw[<-Array.find?_toList,he];rfl
  ·split at e <;> cases e
 ·cases e
theorem zpl{K:PySem.W.Frag}{C fI:Addr}{bmB:List Value}{newId:String}(q:zcl K C bmB newId fI=true):
  ∃nm qn N bs bm sn sub ab col dd k0 k1 k2 k3 k5,K.lookup C=some (excClassObj nm qn C N bs bm true sn sub ab col dd k0 k1 k2 k3 k5 newId)/\PySem.W.nsOkIn K N=true/\PySem.W.nsIn K N "__init__" = some (some (.ref fI))/\PySem.W.tailIn K bmB bm=true:=by
 unfold zcl at q
 split at q
 ·next dd cd sl ho=>
  split at q
  ·next C' bm k0 k1 k2 k3 n k5 hm hs=>
   simp only[Bool.and_eq_true,beq_iff_eq,Bool.not_eq_true']at q;obtain⟨⟨⟨⟨⟨⟨rfl,rfl⟩,z1⟩,zd⟩,z2⟩,z3⟩,z4⟩:=q;obtain⟨nm,bs,mro,ns,qn,hd,sn,sub,ab,col,del⟩:=cd;obtain⟨l⟩:=sl;dsimp only at hm z1 z3 z4 hs zd;subst hm z1 hs zd;exact⟨nm,qn,ns,bs,bm,sn,sub,ab,col,dd,k0,k1,k2,k3,k5,ho,z3,z4,z2⟩
  ·cases q
 ·cases q
theorem zou{K:PySem.W.Frag}{h:Heap}{C fI:Addr}{bmB:List Value}{newId:String}(X:K.In h)(q:zcl K C bmB newId fI=true):
  ∃nm qn N bs bm sn sub ab col dd k0 k1 k2 k3 k5 mN,h.get? C=some (excClassObj nm qn C N bs bm true sn sub ab col dd k0 k1 k2 k3 k5 newId)/\h.Ns N mN/\mN "__init__" = some (.ref fI)/\OwnTail h bmB bm:=by
 obtain⟨nm,qn,ns,bs,bm,sn,sub,ab,col,dd,k0,k1,k2,k3,k5,ho,z3,z4,z2⟩:=zpl q;have G:=Heap.Ns.of_isNs (PySem.W.isNs_of_in X z3);exact⟨nm,qn,ns,bs,bm,sn,sub,ab,col,dd,k0,k1,k2,k3,k5,_,X _ _ ho,G,zmq X G z4,PySem.W.tail_of_in X z2⟩
section
variable {X:Cx}{pins:List (Addr×Obj)}{σ:St}{H:Hp}{s:Shared}
theorem zhq{M:Model}{A:Around}{E:Value->Shared->Prop}{Q:Value->Shared->Prop}{i:Nat}{x:Str}{pos:Pos}{v:V}(I:Inv X pins σ H s)(hN:X.N[i]?=some x)(hσ:σ[i]?=some (some v))(hv:Vis X.env.scope x)(h:∀u,RelV v u->Q u s)(hd:(x ==("__debug__" : Str))=false)(hcd:(x ==("__classdict__" : Str))=false):
  wpAny M A (eval (.Name x pos) X.env) Q E s:=by
 obtain⟨m,hn,hl⟩:=I.loc;obtain⟨u,r,l⟩:=hl i x v hN hσ hv;rcases l with⟨hk,hm⟩ |⟨hk,c,hc,hcell⟩
 ·exact wpAny_Name (wpAny_loadName_local I.ok.kind hk hn hm (h u r)) hd
 ·rcases hk with hk|hk
  ·exact wpAny_Name (wpAny_loadName_cell I.ok.kind hk hc hcell (h u r)) hd
  ·exact wpAny_Name (wpAny_loadName_free I.ok.kind hk hc hcell (h u r) hcd) hd
theorem Inv.track{b:Addr}{o:HO}(I:Inv X pins σ H s)(hn:H b=none)(h0:X.s₀.heap.get? b=none)(hl:b≠X.env.locals)(hc:∀x c,X.env.cells.lookup x=some c->c≠b)(hp:∀p∈X.pn++pins,p.1≠b)(ok:ObjOk X.prog X.w (upd H b o) s.heap b o):Inv X pins σ (upd H b o) s:=by
 have up:∀c u,H c=some u->upd H b o c=some u:=λc u e=>by rw[zh (yd e hn)];exact e
 refine⟨I.ok,I.os,I.bare,⟨I.base.keep,I.base.slot,λc u e n hx=>?_,I.base.there,λc xs e=>up _ _ (I.base.tups c xs e),λc u v e=>up _ _ (I.base.frzs c u v e),λc ps e=>?_⟩,I.loc,I.cell,?_,λx c e=>?_,λp q=>?_,λc u e=>?_,I.len⟩
 ·rw[zh (λz=>by rw[z,h0]at e;cases e)];exact I.base.free c u e n hx
 ·obtain⟨m,z⟩:=I.base.tbls c ps e;exact⟨m,up _ _ z⟩
 ·rw[zh (Ne.symm hl)];exact I.free
 ·rw[zh (hc x c e)];exact I.freeC x c e
 ·obtain⟨z1,z2,z3⟩:=I.pin p q;exact⟨z1,by rw[zh (hp p q)];exact z2,z3⟩
 ·by_cases z:c=b
  ·subst z;rw[zm]at e
   cases e;exact ok
  ·rw[zh z]at e;exact(I.hok c u e).stay (λ_ _ _ q=>q) (λc q=>up _ _ q) (λc xs q=>up _ _ q) λc _ _ q=>up _ _ q
def zkj(H:Hp)(b:Addr):Hp:=λc=>if c=b then none else H c
theorem km{b c:Addr}(h:c≠b):zkj H b c=H c:=if_neg h
theorem Inv.untrack{b:Addr}{φ:Heap->Prop}(I:Inv X pins σ H s)(hb:H b=some (.ext φ))(h0:X.s₀.heap.get? b=none):Inv X pins σ (zkj H b) s:=by
 have ne:∀c u,H c=some u->(∀ψ,u ≠ .ext ψ)->c≠b:=λc u e n z=>by rw[z,hb]at e;cases e;exact n _ rfl
 have off:∀c,H c=none->zkj H b c=none:=λc e=>by unfold zkj;split <;> first|rfl|exact e
 refine⟨I.ok,I.os,I.bare,⟨I.base.keep,I.base.slot,λc u e n hx=>off _ (I.base.free c u e n hx),I.base.there,λc xs e=>?_,λc u v e=>?_,λc ps e=>?_⟩,I.loc,I.cell,off _ I.free,λx c e=>off _ (I.freeC x c e),λp q=>?_,λc u e=>?_,I.len⟩
 ·have:=I.base.tups c xs e;rw[km (ne c _ this λ_=>by simp)];exact this
 ·have:=I.base.frzs c u v e;rw[km (ne c _ this λ_=>by simp)];exact this
 ·obtain⟨m,z⟩:=I.base.tbls c ps e;exact⟨m,by rw[km (ne c _ z λ_=>by simp)];exact z⟩
 ·obtain⟨z1,z2,z3⟩:=I.pin p q;exact⟨z1,off _ z2,z3⟩
 ·have e':H c=some u:=by
   unfold zkj at e
   split at e
   ·cases e
   ·exact e
  exact(I.hok c u e').stay (λ_ _ _ q=>q) (λc q=>by rw[km (ne c _ q λ_=>by simp)];exact q) (λc xs q=>by rw[km (ne c _ q λ_=>by simp)];exact q) λc _ _ q=>by rw[km (ne c _ q λ_=>by simp)];exact q
end
def ko(C t:Addr)(od:Option Addr):Obj:={ cls:=.ref C,dict:=od,data:=.fields #[.ref t,.none,.none,.none,.bool false,.none] }
def zge(C t:Addr)(od:Option Addr)(a:Addr):HO:=.ext λh=>h.get? a=some (ko C t od)
theorem zi1{P:Program}{w:World}{H:Hp}{h:Heap}{C t a:Addr}{od:Option Addr}(g:h.get? a=some (ko C t od)):ObjOk P w H h a (zge C t od a):=⟨g,⟨_,g⟩,λ_ _ z k=>k _ z⟩
structure XI(X:Cx)(σ:St)(H:Hp)(s:Shared)(e C t:Addr)(od:Option Addr)(mA:Str->Option Value)(c:Nat):Prop where
 I:Inv X [] σ H s
 tr:H e=some (zge C t od e)
 no:od=none->∀n,mA n=none
 ns:∀d,od=some d->d≠e/\s.heap.Ns1 d mA/\FpOk X [] H d
 few:∃ks,Within mA ks/\ks.length<=c
structure zkk(K:PySem.W.Frag)(C fI:Addr)(fs:List Str):Prop where
 cls:zcl K C [.type "ValueError",.type "Exception",.type "BaseException",.type "object"] "ValueError.__new__" fI=true
 sa:PySem.W.findIn K (.ref C) "__setattr__" = some (some (.builtin "object.__setattr__"))
 at_:∀f∈fs,PySem.W.findIn K (.ref C) f=some none
section
variable {X:Cx}{σ:St}{H:Hp}{s:Shared}{e C t fI:Addr}{od:Option Addr}{mA:Str->Option Value}{fs:List Str}{c:Nat}
theorem XI.ob(x:XI X σ H s e C t od mA c):s.heap.get? e=some (ko C t od):=(x.I.hok e _ x.tr).1
theorem XI.inst(x:XI X σ H s e C t od mA c):s.heap.Inst e C mA:=by
 refine⟨_,x.ob,rfl,(λc z=>by cases z),?_⟩
 cases h:od with
 |none=>exact .inl ⟨by simp[ko],x.no h⟩
 |some d=>exact .inr ⟨d,rfl,(x.ns d h).1,(x.ns d h).2.1⟩
theorem zgf(x:XI X σ H s e C t od mA c)(K:zkk X.K C fI fs)(hc9:c<=900){f:Str}{j:Nat}{n:Int}{p1 p2 p3 p4:Pos}(hf:f∈fs)(h0:σ[0]?=some (some (.ref e)))(hj:σ[j]?=some (some (.int n)))(N0:X.N[0]?=some ("self" : Str))(Nj:X.N[j]?=some f)(V0:Vis X.env.scope "self")(Vj:Vis X.env.scope f)
  (d1:(f ==("__debug__" : Str))=false) (d2:(f ==("__classdict__" : Str))=false) (hs:swapsWith (.Name f p3) (some (.Attribute (.Name "self" p1) f p2)) p4.line X.env=pure false) :
  wpAny (model X.prog X.w) X.A (exec (.Assign [.Attribute (.Name "self" p1) f p2] (.Name f p3) p4) X.env)
   (λfl s'=>fl=.next/\∃H' d tk,XI X σ H' s' e C t (some d) (λy=>if y=f then some (.int n tk) else mA y) (c+1)/\But e H H') (λ_ _=>False) s:=by
 refine plainObj_wpAny_Assign_Attribute (zhq x.I Nj hj Vj (λu ru=>zhq x.I N0 h0 V0 (λov rv=>?_) (by decide) (by decide)) d1 d2) hs;obtain⟨tk,rfl⟩:=ru;obtain rfl:ov=.ref e:=rv;obtain⟨nm,qn,N,bs,bm,sn,sub,ab,col,dd,k0,k1,k2,k3,k5,mN,gC,gN,eI,T⟩:=zou x.I.kIn K.cls;have ls:=PySem.W.looks_findIn (M:=model X.prog X.w) x.I.kIn K.sa;have lf:=PySem.W.looks_findIn (M:=model X.prog X.w) x.I.kIn (K.at_ f hf);obtain⟨ks,few,le⟩:=x.few;have xo:=x;obtain⟨hp,g,dr,tks,os⟩:=s;refine zos (F.store_ValueError) T gC ls lf x.inst (λh' tk' z=>⟨rfl,?_⟩) few (by omega);obtain⟨zi,zk,zo⟩:=z;obtain⟨o1,g1,c1,c2,c3,dx,ed,e1,e2⟩:=zo _ x.ob;have eo:o1=ko C t (some dx):=by
  obtain⟨a1,a2,a3,a4⟩:=o1;simp only[ko]at c1 c2 c3;subst c1 c2 c3 ed;rfl
 subst eo;obtain⟨o2,g2,_,_,dc⟩:=zi;have:ko C t (some dx)=o2:=Option.some.inj (g1.symm.trans g2);subst this;have nsx:dx≠e/\h'.Ns1 dx (λy=>if y=f then some (.int n tk) else mA y):=by
  rcases dc with⟨z,_⟩ |⟨d',z,z1,z2⟩
  ·cases z
  ·cases z;exact⟨z1,z2⟩
 have few':∃ks',Within (λy=>if y=f then some (Value.int n tk) else mA y) ks'/\ks'.length<=c+1:=⟨f::ks,Within.cons f _ few,by rw[List.length_cons];omega⟩
 cases hd:od with
 |none=>
  subst hd;have yl:=e2 rfl;have hn:(upd H e (zge C t (some dx) e)) dx=none:=by rw[zh nsx.1];exact x.I.hok.fresh yl
  refine⟨_,dx,tk,⟨x.I.write (x:=e) (e:=e) (t':=tk') (by rw[x.tr];exact True.intro) (.inl rfl) (λb u nb gb=>zk b u nb (λo0 dy q1 q2=>by rw[x.ob]at q1;cases q1;cases q2) gb) ⟨_,g1⟩ (zi1 g1),zm,(λz=>nomatch z),λd z=>?_,few'⟩,But.write⟩
  cases z;exact⟨nsx.1,nsx.2,x.I.fpOk yl hn⟩
 |some d=>
  subst hd;have ee:=e1 d rfl;subst ee;obtain⟨n1,n2,fp⟩:=x.ns dx rfl;refine⟨H,dx,tk,⟨fp.inv (t':=tk') x.I λb o nb gb=>?_,x.tr,(λz=>nomatch z),λd' z=>?_,few'⟩,But.refl _ _⟩
  ·by_cases q:b=e
   ·subst q;rw[x.ob]at gb
    cases gb;exact g1
   ·exact zk b o q (λo0 dy q1 q2=>by rw[x.ob]at q1;cases q1;cases q2;exact nb) gb
  ·cases z;exact⟨nsx.1,nsx.2,fp⟩
end
def zmr(fs:List Str)(ns:List Int):List (Str×V):=(fs.zip ns).map λp=>(p.1,V.int p.2)
def zi2(P:Program)(w:World)(outer:List Env)(H:Hp)(s s':Shared)(e C t:Addr)(fv:List (Str×V)):Prop :=
 ∃d H',s'.os=s.os/\AllBare s'.gens/\Un (frs outer) [] H H' s.heap s'.heap/\HOk P w H' s'.heap/\H' e=some (zge C t (some d) e)/\H' d=some (.xd fv)/\But e H H'/\d≠e/\H d=none
structure zev(P:Program)(w:World)(K:PySem.W.Frag)(mg:Str->Option Value)(base:Heap)(k:Nat)(C fI:Addr)(fs:List Str):Prop where
 run:∀(A:Around) (outer:List Env) (s:Shared) (H:Hp) (e t:Addr) (ns:List Int) (us:List Value),Room k A->Env0 P w K mg base A outer s H->H e=some (zge C t none e)->Vals (ns.map V.int) us->ns.length=fs.length ->
  codeAny (model P w) A (.call (.ref fI) ⟨.ref e::us,[]⟩) (λr s'=>r=.ok (.ret .none)/\zi2 P w outer H s s' e C t (zmr fs ns)) s
section
variable {P:Program}{w:World}{K:PySem.W.Frag}{mg:Str->Option Value}{base:Heap}{k:Nat}{C fI:Addr}{fd:FuncData}{qual:Str}{st:Stmt}
theorem zrr{X:Cx}{σ:St}{H:Hp}{s:Shared}{e t d:Addr}{mA:Str->Option Value}{c:Nat}{fv:List (Str×V)}(x:XI X σ H s e C t (some d) mA c)(hex:X.ex = [])(b:But e X.H₀ H)(hr:∀f,zje (fv.lookup f) (mA f))(hok:HOk X.prog X.w X.H₀ X.s₀.heap):
  ∃H',Inv X [] σ H' s/\H' e=some (zge C t (some d) e)/\H' d=some (.xd fv)/\But e X.H₀ H'/\d≠e/\X.H₀ d=none:=by
 obtain⟨ne,ns,f0,f1,f2,f3,f4,f5⟩:=x.ns d rfl;have y:X.s₀.heap.objs.size<=d:=by
  rcases f3 with z|z
  ·rw[hex]at z;cases z
  ·exact z
 refine⟨_,x.I.track (b:=d) (o:=.xd fv) f0 (Heap.get?_none_of_le y) f1 f4 f5 ⟨mA,ns,hr⟩,by rw[zh ne.symm];exact x.tr,zm,λc o n q=>?_,ne,hok.fresh y⟩;have:=b c o n q;rw[zh (yd this f0)];exact this
theorem zov{N ps:List Str}(F:Fun K "__init__" qual st fI fd)(S:yf N ps (ze st))(hb:Binds K fd ps []){A:Around}{outer:List Env}{s:Shared}{H:Hp}{e t:Addr}{vs:List V}{us:List Value}{fv:List (Str×V)}(hr:Room (k+1) A)(e0:Env0 P w K mg base A outer s H)
  (r:Vals vs us) (hl:vs.length=ps.length)
  (body:∀cdv s1,Inv (xn CX0 P w K mg base N qual (ze st) fI cdv A outer s H E0) [] (wo N vs) H s1 ->
   wpAny (model P w) (A.deeper (envOfC qual (ze st) s.heap.objs.size fI cdv)) (execs (xa st) (envOfC qual (ze st) s.heap.objs.size fI cdv)) (λfl s'=>fl=.next/\∃H' d σ',Inv (xn CX0 P w K mg base N qual (ze st) fI cdv A outer s H E0) [] σ' H' s' /\
    H' e=some (zge C t (some d) e)/\H' d=some (.xd fv)/\But e H H'/\d≠e/\H d=none) (λ_ _=>False) s1) :
  codeAny (model P w) A (.call (.ref fI) ⟨us,[]⟩) (λr s'=>r=.ok (.ret .none)/\zi2 P w outer H s s' e C t fv) s:=by
 have lu:us.length=ps.length:=by rw[<-r.length];exact hl
 have KX:K.In s.heap:=e0.mod.kin.keeps λb o e=>(e0.bs b o e).1;have bb:BindsTo s fd ⟨us,[]⟩ (ps.zip us):=by
  have:=hb s us KX (by rw[List.append_nil];exact lu);rw[List.append_nil]at this;exact this
 obtain⟨oc,od,kV,doc,pm,an,cdv,ct,osl,rfl,lk,hcd⟩:=F.ex;have lim:s.heap.NoLimit:=e0.mod.nolimit.keeps λb o e=>(e0.bs b o e).1;have knd:∀y∈ps.zip us,(ze st).names.lookup y.1=some .local\/((ze st).names.lookup y.1=some .cell/\((cellsFrom (s.heap.objs.size+1) (ze st).names []).lookup y.1).isSome=true):=λ⟨n,v⟩ hy=>by
  rcases S.par n (List.of_mem_zip hy).1 with z|z
  ·exact .inl z
  ·exact .inr ⟨z,PySem.W.cellsFrom_some _ _ _ (.inl z)⟩
 refine codeAny_call_function hr.depth (KX _ _ lk) rfl S.co S.gen rfl (PySem.W.codeRec_of KX hcd) (bb _ _ _ _ ?_);refine wpAny_newFunctionEnv_cells S.kind knd λenv he s1 x=>?_;subst he;refine⟨lim.keeps x.toInCall.keep,codeAny_func ?_⟩;have I:Inv (xn CX0 P w K mg base N qual (ze st) fI cdv A outer s H E0) [] (wo N vs) H s1:=za0 S hr.hd e0 hl r x;refine wpAny_mono (body cdv s1 I) (λfl s' z=>?_) λ_ _ z=>z.elim;obtain⟨rfl,H',d,σ',J,r1,r2,r3,r4,r5⟩:=z;exact⟨rfl,d,H',J.os,J.bare,J.base,J.hok,r1,r2,r3,r4,r5⟩
theorem zms{a b:Str}{p1 p2 p3 p4 q1 q2 q3 q4:Pos}(F:Fun K "__init__" qual st fI fd)(S:yf ["self",a,b] ["self",a,b] (ze st))(hb:Binds K fd ["self",a,b] [])(XC:zkk K C fI [a,b])(ab:a≠b)
  (eb:xa st = [.Assign [.Attribute (.Name "self" p1) a p2] (.Name a p3) p4,.Assign [.Attribute (.Name "self" q1) b q2] (.Name b q3) q4])
  (da:(a ==("__debug__" : Str))=false:=by decide) (da2:(a ==("__classdict__" : Str))=false:=by decide) (db:(b ==("__debug__" : Str))=false:=by decide) (db2:(b ==("__classdict__" : Str))=false:=by decide)
  (sa:∀L cd,swapsWith (.Name a p3) (some (.Attribute (.Name "self" p1) a p2)) p4.line (envOfC qual (ze st) L fI cd)=pure false:=by intro L cd;rfl)
  (sb:∀L cd,swapsWith (.Name b q3) (some (.Attribute (.Name "self" q1) b q2)) q4.line (envOfC qual (ze st) L fI cd)=pure false:=by intro L cd;rfl):zev P w K mg base (k+1) C fI [a,b]:=⟨λA outer s H e t ns us hr e0 tr rv hl=>by
 match ns,hl,rv with
 |[x,y],_,rv=>
  refine zov (vs:=[.ref e,.int x,.int y]) F S hb hr e0 (.cons rfl rv) rfl λcdv s1 I=>?_;have V:∀z∈([("self" : Str),a,b]:List Str),Vis (ze st) z:=λz hz=>by
   rcases S.par z hz with q|q
   ·exact .inl q
   ·exact .inr (.inl q)
  have x0:XI (xn CX0 P w K mg base ["self",a,b] qual (ze st) fI cdv A outer s H E0) (wo ["self",a,b] [.ref e,.int x,.int y]) H s1 e C t none (λ_=>none) 0:=⟨I,tr,λ_ _=>rfl,(λ_ z=>nomatch z),[],Within.nil,Nat.le_refl _⟩
  rw[eb];refine wpAny_execs_cons (wpAny_mono (zgf (j:=1) (n:=x) x0 XC (by decide) List.mem_cons_self rfl rfl rfl rfl (V _ (.head _)) (V _ (.tail _ (.head _))) da da2 (sa _ _)) (λfl s2 z=>?_) λ_ _ z=>z);obtain⟨rfl,H1,d1,t1,x1,b1⟩:=z;refine wpAny_execs_cons (wpAny_mono (zgf (j:=2) (n:=y) x1 XC (by decide) (.tail _ (.head _)) rfl rfl rfl rfl (V _ (.head _)) (V _ (.tail _ (.tail _ (.head _)))) db db2 (sb _ _)) (λfl s3 z=>?_) λ_ _ z=>z);obtain⟨rfl,H2,d2,t2,x2,b2⟩:=z;refine wpAny_execs_nil ⟨rfl,?_⟩
  suffices hr:∀f,zje ((zmr [a,b] [x,y]).lookup f) ((λz=>if z=b then some (Value.int y t2) else (λz=>if z=a then some (Value.int x t1) else none) z) f) by
   obtain⟨H',J,r1,r2,r3,r4,r5⟩:=zrr (fv:=zmr [a,b] [x,y]) x2 rfl (b1.trans b2) hr e0.hok;exact⟨H',d2,_,J,r1,r2,r3,r4,r5⟩
  intro f
  ·simp only[zmr,List.zip_cons_cons,List.zip_nil_right,List.map_cons,List.map_nil,List.lookup_cons]
   by_cases c2:f=b
   ·subst c2;rw[if_pos rfl,show(f == a)=false by simpa using ab.symm,show(f == f)=true by simp];exact⟨t2,rfl⟩
   ·rw[if_neg c2]
    by_cases c1:f=a
    ·subst c1;rw[if_pos rfl,show(f == f)=true by simp];exact⟨t1,rfl⟩
    ·rw[if_neg c1,show(f == a)=false by simpa using c1,show(f == b)=false by simpa using c2];exact True.intro⟩
end
section
variable {P:Program}{w:World}{K:PySem.W.Frag}{mg:Str->Option Value}{base:Heap}{N:List Str}{qual:Str}{scope:Scope}{f:Addr}{cd:Value}{A:Around}{outer:List Env}{s:Shared}{H:Hp}{E:XK}
theorem zrs{s1:Shared}{H1:Hp}{pins:List (Addr×Obj)}{σ:St}{C fI:Addr}{k:Nat}{x:Str}{fs:List Str}{np cpos pos:Pos}{e:Expr}{es:List Expr}{Q:Flow->Shared->Prop}{R:List Int->Hp->Prop}
  (I:Inv (xn (CXk P w) P w K mg base N qual scope f cd A outer s H E) pins σ H1 s1) (hh:A.handled=none) (hr:Room (k+1) (A.deeper (envOfC qual scope s.heap.objs.size f cd))) (hg:Gl (xn (CXk P w) P w K mg base N qual scope f cd A outer s H E) x) (hm:mg x=some (.ref C))
  (XC:zkk K C fI fs) (IO:zev P w K mg base k C fI fs) {oI:Obj} (gI:K.lookup fI=some oI) (cI:oI.cls=.type "function")
  (ha:wpAny (model P w) (A.deeper (envOfC qual scope s.heap.objs.size f cd)) (spliced (backTo cpos (starEach (e::es) (envOfC qual scope s.heap.objs.size f cd))))
   (λus s2=>∃ns H2,Inv (xn (CXk P w) P w K mg base N qual scope f cd A outer s H E) pins σ H2 s2/\Vals (ns.map V.int) us/\Same H1 H2/\ns.length=fs.length/\R ns H2) (λ_ _=>False) s1)
  (hE:∀ns H2 H5 d,R ns H2->Same H2 H5->H5 d=some (.xd (zmr fs ns))->E (.ref C) (some d) H5)
  (he:starEach (e::es) (envOfC qual scope s.heap.objs.size f cd)=(false,eval e (envOfC qual scope s.heap.objs.size f cd))::starEach es (envOfC qual scope s.heap.objs.size f cd))
  (hpl:(backTo cpos (starEach es (envOfC qual scope s.heap.objs.size f cd))).any (·.1)=false) (few:fs.length<=100) (hdb:(x ==("__debug__" : Str))=false:=by decide) :
  wpAny (model P w) (A.deeper (envOfC qual scope s.heap.objs.size f cd)) (exec (.Raise (some (.Call (.Name x np) (e::es) [] cpos)) none pos) (envOfC qual scope s.heap.objs.size f cd)) Q (xn (CXk P w) P w K mg base N qual scope f cd A outer s H E).xe s1:=by
 obtain⟨nm,qn,Nn,bs,bm,sn,sub,ab,col,dd,k0,k1,k2,k3,k5,lC,z3,z4,z2⟩:=zpl XC.cls;refine zmp (C:=C) (nm:=nm) (q:=qn) (N:=Nn) (bs:=bs) (bm:=bm) (hdct:=true) (sn:=sn) (sub:=sub) (ab:=ab) (col:=col) (dd:=dd) (k0:=k0) (k1:=k1) (k2:=k2) (k3:=k3) (k5:=k5) (newId := "ValueError.__new__") (fI:=fI) (oI:=oI)
  PySem.F.excBase_ValueError rfl PySem.F.excBase_ValueError ((PySem.W.tail_of_in I.kIn z2).hasType rfl) hh (by rw[he];exact hpl) cI (v0 I hg hm ⟨rfl,?_⟩ hdb)
 have eb:backTo cpos (starEach (e::es) (envOfC qual scope s.heap.objs.size f cd))=(false,eval e (envOfC qual scope s.heap.objs.size f cd))::backTo cpos (starEach es (envOfC qual scope s.heap.objs.size f cd)):=by rw[he];rfl
 rw[eb]at ha ⊢;refine Calls.evalArgs_plain (wpAny_mono ha (λus s2 ⟨ns,H2,I2,rv,sm,ln,hR⟩=>?_) λ_ _ z=>z.elim);have lu:us.length=fs.length:=by rw[<-rv.length,List.length_map,ln]
 have G:=Heap.Ns.of_isNs (PySem.W.isNs_of_in I2.kIn z3);refine⟨rfl,by rw[sizeLine_eq];show us.length<=_;omega,I2.kIn _ _ lC,⟨_,G,zmq I2.kIn G z4⟩,PySem.W.tail_of_in I2.kIn z2,I2.kIn _ _ gI,λh' a mk=>?_⟩;obtain⟨t,ge,_,_⟩:=mk.there;have J:=I2.kept (t':=s2.toks) mk.keeps;have n0:s.heap.get? a=none:=by
  cases z:s.heap.get? a with
  |none=>rfl
  |some o=>
   obtain⟨o',e'⟩:=I2.base.there a o z (by intro y;cases y);rw[mk.new]at e'
   cases e'
 have n2:H2 a=none:=by
  cases z:H2 a with
  |none=>rfl
  |some u=>
   obtain⟨o,ho⟩:=(I2.hok a u z).ex;rw[mk.new]at ho
   cases ho
 have J2:Inv (xn (CXk P w) P w K mg base N qual scope f cd A outer s H E) pins σ (upd H2 a (zge C t none a)) { s2 with heap:=h' }:=by
  refine J.track n2 n0 (λz=>?_) (λy c q z=>?_) (λp q z=>?_) (zi1 ge)
  ·obtain⟨m,⟨o,_,_,g,_⟩,_⟩:=I2.loc;rw[<-z,mk.new]at g
   cases g
  ·obtain⟨v,o,g,_⟩:=I2.cell y c q;rw[z,mk.new]at g
   cases g
  ·have:=(I2.pin p q).1;rw[z,mk.new]at this
   cases this
 refine wpAny_call (codeAny_mono (IO.run _ _ _ _ a t ns us (hr.make C us []) (J2.env0.make C us []) zm rv ln) λr s3 z=>?_);obtain⟨rfl,d,H4,os,bare,un,hok,r1,r2,r3,r4,r5⟩:=z;have J3:=J2.call' os un hok bare (λb hb=>nomatch hb);have ob:s3.heap.get? a=some (ko C t (some d)):=(J3.hok a _ r1).1;have J4:=J3.untrack r1 n0;have sm5:Same H2 (zkj H4 a):=λb o q=>by
  have nb:b≠a:=λz=>by rw[z,n2]at q;cases q
  rw[km nb];exact r3 b o nb (by rw[zh nb];exact q)
 refine⟨rfl,J3.kIn _ _ lC,⟨t,some d,ob⟩,?_⟩;exact zmd J4 (.inr ⟨_,_,ob,⟨rfl,rfl⟩,rfl,rfl⟩) n0 (if_pos rfl) (hE ns H2 _ d hR sm5 (by rw[km r4];exact r2))
def zew(ex:EX)(x:Str)(fs:List Str)(ta:DTF):DTS:=λ_ σ=>ta σ λds=>∃ns:List Int,ds=ns.map PyData.int/\ns.length=fs.length/\ex (x,fs.zip ns)
theorem zcm{ex:EX}{x:Str}{C fI:Addr}{k:Nat}{fs:List Str}{np cpos pos:Pos}{e:Expr}{es:List Expr}{ta:DTF}(hE:∀c od H',XE K H ex c od H'->E c od H')(hh:A.handled=none)(hr:Room (k+1) (A.deeper (envOfC qual scope s.heap.objs.size f cd)))(hg:Gl (xn (CXk P w) P w K mg base N qual scope f cd A outer s H E) x)(hm:mg x=some (.ref C))(hn:PySem.W.nsIn K mainGlobals x=some (some (.ref C)))
  (XC:zkk K C fI fs) (IO:zev P w K mg base k C fI fs) {oI:Obj} (gI:K.lookup fI=some oI) (cI:oI.cls=.type "function") (few:fs.length<=100) (ha:DA (xn (CXk P w) P w K mg base N qual scope f cd A outer s H E).nox (e::es) ta)
  (he:starEach (e::es) (envOfC qual scope s.heap.objs.size f cd)=(false,eval e (envOfC qual scope s.heap.objs.size f cd))::starEach es (envOfC qual scope s.heap.objs.size f cd):=by rfl)
  (hpl:(backTo cpos (starEach es (envOfC qual scope s.heap.objs.size f cd))).any (·.1)=false:=by rfl) (hdb:(x ==("__debug__" : Str))=false:=by decide) :
  DSX (xn (CXk P w) P w K mg base N qual scope f cd A outer s H E) (.Raise (some (.Call (.Name x np) (e::es) [] cpos)) none pos) (zew ex x fs ta) :=
 ⟨λpins s1 σ H1 σD Dn I ok qq=>zrs (R:=λns H2=>Same H1 H2/\ns.length=fs.length/\ex (x,fs.zip ns)) I hh hr hg hm XC IO gI cI (wpAny_mono (ha.run cpos pins s1 σ H1 _ σD _ (I.wish _) ok qq) (λus s2 ⟨vs,H2,ds,I2,rv,sm,rp,ns,e1,e2,e3⟩=>by
   subst e1;have:=Reps.of_ints rp;subst this;exact⟨ns,H2,I2.unwish,rv,sm,e2,sm,e2,e3⟩) λ_ _ z=>z) (λns H2 H5 d ⟨sm,ln,hx⟩ sm5 hd=>hE _ _ _ ⟨(x,fs.zip ns),C,rfl,hn,ok.same.trans (sm.trans sm5),.inr ⟨d,rfl,hd⟩,hx⟩) he hpl few hdb⟩
end
end L2
namespace L2
open PySem PySem.Spec PyProof.Rows PySem.W
section
variable {prog:Program}{w:World}{A:Around}{E:Value->Shared->Prop}{s:Shared}{K:Frag}{x C:Addr}{ox:Obj}{od:Option Obj}{name:Str}{v:Value}
theorem zhr{tk:Tok}{R:Result->Shared->Prop}(X:K.In s.heap)(I:InstAt s.heap x ox C od)(hb:mroIn K C (.type "BaseException")=some true)(hf:findObj K C od name=some (.value v))(q:R (.ok (.ret v)) s):
  codeAny (model prog w) A (.call (.builtin "BaseException.__getattribute__") ⟨[.ref x,.str name tk],[]⟩) R s:=by
 refine codeAny_call_builtin PySem.F.attr_ValueError.ga.plain PySem.F.entry_bexc_ga (zdr X I hb ?_);have L0:=I.type (M:=model prog w);have L1:=looks_find (M:=model prog w) X I hf;obtain⟨hh,g,dr,t,os⟩:=s;unfold Builtin.«object.__getattribute__»
 repeat (any_goals (first|assumption|exact L0.at ‹_›|wp_step))
 refine wpAny_loadPart_at I.at_ (wpAny_pure ?_);rw[I.cls];refine wpAny_bind (L1.at ?_);exact wpAny_pure q
theorem zow{expr:Bool}{Q:Value->Shared->Prop}(X:K.In s.heap)(I:InstAt s.heap x ox C od)(hga:findIn K (.ref C) "__getattribute__" = some (some (.builtin "BaseException.__getattribute__")))(hhk:findIn K (.ref C) "__getattr__" = some none)(hb:mroIn K C (.type "BaseException")=some true)
  (hf:findObj K C od name=some (.value v)) (hv:handedIn v=true) (q:Q v { s with toks:=s.toks+1 }):wpAny (model prog w) A (getAttr (.ref x) name expr) Q E s:=by
 have L0:=I.type (M:=model prog w);have L1:=looks_findIn (M:=model prog w) X hga;have L2:=looks_findIn (M:=model prog w) X hhk;obtain⟨hh,g,d,t,os⟩:=s;unfold getAttr getAttrBy;refine wpAny_bind (wpAny_mkText (wpAny_holding (wpAny_bind (L0.at (wpAny_bind (L1.at ?_))))));dsimp only;rw[if_neg (by rw[show(Value.builtin "BaseException.__getattribute__" == Value.builtin "object.__getattribute__")=false by decide +kernel,Bool.and_false];decide)];unfold getAttrByItsOwn hookBefore;rw[if_pos (by rfl)];refine wpAny_bind (L2.at (wpAny_bind (wpAny_attempt (wpAny_holding ?_))));unfold callGetattribute;rw[if_neg (by rw[show onTheHeap (Value.builtin "BaseException.__getattribute__")=false by decide +kernel,Bool.and_false];decide)];unfold boundAndCalled;refine wpAny_bind (wpAny_of_eq (PySem.F.attr_ValueError.ga.bind (.ref x)) ?_);refine wpAny_call (zhr (s:=⟨hh,g,d,t+1,os⟩) X I hb hf ?_);exact handed_on hv q
end
section
variable {X:Cx}{pos p:Pos}
def zi3(i:Nat)(f:Str):DTE:=λσ Q=>match σ[i]? with
 |some (some (.exc x))=>(match x.2.lookup f with
  |some n=>Q (.int n)
  |none=>False)
 |_=>False
theorem zi4(f:Str):∀fs:List (Str×Int),(fs.map λp=>(p.1,V.int p.2)).lookup f=(fs.lookup f).map V.int
 |[]=>rfl
 |(a,n)::fs=>by
  rw[List.map_cons,List.lookup_cons,List.lookup_cons]
  cases f == a with
  |true=>rfl
  |false=>exact zi4 f fs
def zmt(K:Frag)(f:Str)(L:List Str):Prop:=∀nm∈L,∀C,nsIn K mainGlobals nm=some (some (.ref C))->XIs K C/\findIn K (.ref C) f=some none
theorem zbx(i:Nat){x f:Str}{L:List Str}(hk:zmt X.K f L)(hN:X.N[i]?=some x:=by rfl)(hvs:Vis X.env.scope x:=by first|exact Or.inl rfl|exact Or.inr (Or.inl rfl)|exact Or.inr (Or.inr rfl))
  (hd:(x ==("__debug__" : Str))=false:=by decide) (hcd:(x ==("__classdict__" : Str))=false:=by decide) (hb:attributeBase (.Name x p) f X.env (eval (.Name x p) X.env)=eval (.Name x p) X.env:=by rfl) :
  DE X (.Attribute (.Name x p) f pos) (λσ Q=>(∀y,σ[i]?=some (some (.exc y))->y.1∈L)/\zi3 i f σ Q):=⟨λpins s σ H H₀ σD Q I ok q=>by
 obtain⟨hL,q⟩:=q;unfold zi3 at q
 split at q
 ·next x' e'=>
  obtain⟨v,e1,a,C,od,rfl,hn,ha,hf⟩:=ok.exc e'
  split at q
  ·next n hl=>
   refine znl hb (zhq I hN e1 hvs (λu ru=>?_) hd hcd);obtain rfl:u=.ref a:=ru;obtain⟨Z,hz⟩:=hk _ (hL _ e') C hn;rcases hf with⟨z,_⟩ |⟨d,rfl,hx⟩
   ·rw[z]at hl;cases hl
   ·obtain⟨⟨oe,he,hc,hdi,vs,hfd⟩,_,_⟩:=I.hok _ _ ha;obtain⟨mA,nsd,rel⟩:=(show ObjOk X.prog X.w H s.heap d (.xd _) from I.hok _ _ hx)
    obtain⟨oo,go,lk⟩:=zjm nsd;have J:InstAt s.heap a oe C (some oo):=⟨he,hc,by unfold notCls;rw[hfd],by rw[hdi];exact go⟩
    have r:=rel f;rw[zi4,hl]at r
    cases em:mA f with
    |none=>rw[em]at r;exact r.elim
    |some u=>
     rw[em]at r;obtain⟨tk,rfl⟩:=r;obtain⟨cd,hcl,_⟩:=kj Z.dct;refine zow I.kIn J Z.ga Z.hk Z.bas (findObj_own Z.dct hz rfl (by rw[lk,em])) rfl ⟨.int n,H,.int n,I.tok _,⟨tk,rfl⟩,Same.refl _,.int,q⟩
  ·exact q.elim
 ·exact q.elim⟩
end
def zmu(P:Program)(w:World)(K:Frag)(mg:Str->Option Value)(base:Heap)(x:Str)(fs:List Str):Prop:=∃C fI od dt sl,mg x=some (.ref C)/\nsIn K mainGlobals x=some (some (.ref C))/\zkk K C fI fs/\zev P w K mg base 1 C fI fs/\K.lookup fI=some ⟨.type "function",od,dt,sl⟩
end L2
namespace L2
open PySem PySem.Spec PyProof.Rows
section
variable {X:Cx}{e:Expr}{es rest:List Expr}{k k':Nat}{x:Str}{ps:List Str}{sp:DSp}{t:DTP}{p cpos:Pos}
end
section
variable {X:Cx}
variable {o e:Expr}{to te:DTE}{apos cpos:Pos}
end
section
variable {X:Cx}{pos p:Pos}
end
section
variable {X:Cx}{e:Expr}{pos p:Pos}
end
section
variable {X:Cx}{a b c d:Expr}{ta tb tc td:DTE}{pos:Pos}
end
section
variable {X:Cx}
def zua(X:Cx)(t:DTS):TS:=λE σ H=>∃σD Dn,DOk X.K X.H₀ H σD σ/\t Dn σD/\(∀σ' H' σD',DOk X.K X.H₀ H' σD' σ'->Pers H H'->Dn.nx σD'->E.nx σ' H')/\(∀v H' r,Same X.H₀ H'->zag X.K X.H₀ H' r v->Dn.rt r->E.rt v H') /\
 (∀σ' H' σD',DOk X.K X.H₀ H' σD' σ'->Pers H H'->Dn.bk σD'->E.bk σ' H')/\∀σ' H' σD',DOk X.K X.H₀ H' σD' σ'->Pers H H'->Dn.ct σD'->E.ct σ' H'
theorem DSXs.ps{sts:List Stmt}{t:DTS}(h:DSXs X sts t):PSs X sts (zua X t):=λpins s σ H E I ⟨σD,Dn,ok,q,k1,k2,k3,k4⟩=>thn (h.run pins s σ H σD Dn I ok q) λf s' z=>by
 cases f with
 |next=>obtain⟨a,b,c,e1,e2,e3,e4⟩:=z;exact⟨a,b,e1,k1 a b c e2 e3 e4⟩
 |brk=>obtain⟨a,b,c,e1,e2,e3,e4⟩:=z;exact⟨a,b,e1,k3 a b c e2 e3 e4⟩
 |cont=>obtain⟨a,b,c,e1,e2,e3,e4⟩:=z;exact⟨a,b,e1,k4 a b c e2 e3 e4⟩
 |ret u=>obtain⟨v,a,b,r,e1,e2,e3,e4,e5⟩:=z;exact⟨v,a,b,e1,e2,k2 v b r e3 e4 e5⟩
theorem DSX.of{st:Stmt}{t:DTS}{t':TS}(h:PS X st t')(k:∀σ H σD Dn,DOk X.K X.H₀ H σD σ->t Dn σD->t' (zlx X.K X.H₀ H Dn) σ H):DSX X st t :=
 ⟨λpins s σ H σD Dn I ok q=>thn (h pins s σ H _ I (k σ H σD Dn ok q)) λ_ _ z=>z.dsp⟩
end
section
variable {X:Cx}{pins:List (Addr×Obj)}{σ:St}{H:Hp}{s:Shared}
end
end L2
namespace PySem
section
variable {prog:Program}{w:World}{A:Around}{E:Value->Shared->Prop}{s:Shared}
theorem zcn{l:Addr}{items:Array Value}{ns:List Int}{Q:Value->Shared->Prop}
  (hh:A.handled=none) (hl:s.heap.IsList l items) (hi:PyProof.Rows.IntsAre items.toList ns) (hb:items.size+1<scanBound)
  (h:∀(h':Heap) (tk:Nat),h'.SetV (intKind prog w) s.heap.objs.size (λk'=>(PyProof.Rows.firstMet (λi=>ns.getD i 0) items.size).any (· == k')) (PyProof.Rows.firstMet (λi=>ns.getD i 0) items.size).length ->
   (∀b o,b<s.heap.objs.size->s.heap.get? b=some o->h'.get? b=some o)->Q (.ref s.heap.objs.size) { s with heap:=h',toks:=tk }) :
  wpAny (model prog w) A (call (.type "set") [.ref l]) Q E s:=by
 obtain⟨c,tl,hmro⟩:=F.called_set.mro;have hmade:=F.called_set.made;have hsub:=F.called_set.sub;refine wpAny_call (codeAny_of_tree ?_);show wpAny _ _ (callAny (.type "set") _) _ _ _;refine wpAny_pure ⟨Code.quiet_builtin _ (by decide +kernel),codeAny_builtin F.entry_type_call ?_⟩;rw[Around.under_plain (weight_type_call_type "set" [.ref l] []) rfl];have h1:=F.called_set.notType;have h2:=F.called_set.canCreate;have hct:=F.typeCall_set_1 (.ref l)
 repeat (any_goals (first|assumption|wp_step))
 refine codeAny_mono (zbq (.ref l) (E:=E) (Q₁:=λobj s₁=>∃led:Bool,led = !w.params.followText "set-order" /\ obj=.ref s.heap.objs.size/\s₁ = { s with heap:=s.heap.push { cls:=.type "set",dict:=none,data:=.set #[] 0 (.fresh 0 0 led) } }) ⟨_,rfl,rfl,rfl⟩) λr s₁ hr=>?_
 cases r with
 |error e=>exact hr
 |ok fl=>
  cases fl with
  |ret obj=>
   obtain⟨led,hled,rfl,rfl⟩:=hr;have hS:(s.heap.push { cls:=.type "set",dict:=none,data:=.set #[] 0 (.fresh 0 0 led) }).get? s.heap.objs.size=some { cls:=.type "set",dict:=none,data:=.set #[] 0 (.fresh 0 0 led) }:=Heap.get?_push_size _ rfl;have hT:Shared.TypeIs { s with heap:=s.heap.push { cls:=.type "set",dict:=none,data:=.set #[] 0 (.fresh 0 0 led) } } (.ref s.heap.objs.size) "set" :=⟨_,hS,rfl⟩
   have hli:=F.called_set.init.lookup;have hbi:=F.called_set.init.bind (.ref s.heap.objs.size)
   repeat (any_goals (first|assumption|wp_step))
   refine codeAny_mono (codeAny_call_builtin (R:=wants (λr s₂=>r=.none/\∃h' tk,s₂ = { s with heap:=h',toks:=tk } /\
     h'.SetV (intKind prog w) s.heap.objs.size (λk'=>(PyProof.Rows.firstMet (λi=>ns.getD i 0) items.size).any (· == k')) (PyProof.Rows.firstMet (λi=>ns.getD i 0) items.size).length /\
     (∀b o,b<s.heap.objs.size->s.heap.get? b=some o->h'.get? b=some o)) E) F.called_set.init.plain F.entry_set_init (check_set_init_1 hT ?_)) λr₂ s₂ hr₂=>?_
   ·obtain⟨ol,hol,hcl,nl,hdl⟩:=hl;obtain⟨ocls,odict,odata,oslots⟩:=ol;simp only at hcl hdl;subst hcl;subst hdl;have hol':(s.heap.push { cls:=.type "set",dict:=none,data:=.set #[] 0 (.fresh 0 0 led) }).get? l=some { cls:=.type "list",dict:=odict,data:=.seq items nl,slots:=oslots }:=Heap.get?_push_of_some _ hol;have hsls:=F.sub_list_set;have hslf:=F.sub_list_frozenset;have hne:(Value.type "list" == Value.type "dict")=false:=by decide
    have hl1:(s.heap.push { cls:=.type "set",dict:=none,data:=.set #[] 0 (.fresh 0 0 led) }).IsList l items:=⟨_,hol',rfl,nl,rfl⟩
    unfold Builtin.«set.__init__» noKeywords Builtin.Frozenset.updateFrom;generalize hPI:pyIter=PI
    wp_walk
    subst hPI;refine wpAny_pyIter_list hl1 ?_;refine wpAny_bind (wpAny_runValue ?_);have hlS:l<s.heap.objs.size:=Heap.lt_size hol;have hh3:A.in1.in1.in1.handled=none:=by simp[hh]
    have hneI:l≠(s.heap.push { cls:=.type "set",dict:=none,data:=.set #[] 0 (.fresh 0 0 led) }).objs.size:=by
     rw[Heap.size_push];exact Nat.ne_of_lt (Nat.lt_succ_of_lt hlS)
    have hSf:s.heap.objs.size ∉ [(s.heap.push { cls:=.type "set",dict:=none,data:=.set #[] 0 (.fresh 0 0 led) }).objs.size,l]:=by
     rw[Heap.size_push];simp only[List.mem_cons,List.mem_singleton,List.not_mem_nil,or_false,not_or];exact⟨Nat.ne_of_lt (Nat.lt_succ_self _),Nat.ne_of_gt hlS⟩
    have hval:∀(i:Nat) (v:Value),items[i]?=some v->∃t,v=.int ((λi=>ns.getD i 0) i) t:=λi v hv=>
     PyProof.Rows.IntsAre.int_at hi i v (by rw[Array.getElem?_toList];exact hv)
    refine vf ((Walks.list hh3 _ l hneI items).toS) s.heap.objs.size
     hSf (λi=>ns.getD i 0) hval hb (items.size-0) 0 _ (by omega) (Nat.zero_le _)
     ⟨⟨_,Heap.get?_push_size _ rfl,rfl,rfl⟩,(hl1.push _)⟩ ?hS0 ?hR
    case hS0=>
     have hget:((s.heap.push { cls:=.type "set",dict:=none,data:=.set #[] 0 (.fresh 0 0 led) }).push { cls:=.type "list_iterator",data:=.fields #[.ref l,.int 0 0] }).get? s.heap.objs.size
       = some { cls:=.type "set",dict:=none,data:=.set #[] 0 (.fresh 0 0 led) }:=Heap.get?_push_of_some _ hS
     exact⟨_,#[],0,_,hget,⟨rfl,rfl,rfl⟩,rfl,λe he=>by simp at he,λk=>by simp[PyProof.Rows.firstMet],by decide,by rfl,rfl,⟨List.Pairwise.nil,hled⟩⟩
    case hR=>
     intro s' hm hS';obtain⟨h',g',d',tk',os'⟩:=s';have eg:g'=s.gens:=hm.gens;have ed:d'=s.drawn:=hm.drawn;have eo:os'=s.os:=hm.os;subst eg;subst ed;subst eo;show wpAny _ _ _ _ _ _;refine wpAny_pure ?_;show wpAny _ _ (ret Value.none) _ _ _;refine wpAny_pure ⟨rfl,h',tk',rfl,hS',λb o hb e=>?_⟩;have hb1:b≠s.heap.objs.size:=Nat.ne_of_lt hb;have hb2:b≠(s.heap.push { cls:=.type "set",dict:=none,data:=.set #[] 0 (.fresh 0 0 led) }).objs.size:=by
      rw[Heap.size_push];exact Nat.ne_of_lt (Nat.lt_succ_of_lt hb)
     exact hm.heap b o (by simp only[List.mem_cons,List.mem_singleton,List.not_mem_nil,or_false,not_or];exact⟨hb1,hb2⟩) (Heap.get?_push_of_some _ (Heap.get?_push_of_some _ e))
   ·cases r₂ with
    |error e=>exact hr₂
    |ok fl₂=>
     cases fl₂ with
     |ret r=>
      obtain⟨rfl,h',tk,rfl,hS',hk'⟩:=hr₂
      repeat (any_goals (first|assumption|wp_step))
      exact h _ _ hS' hk'
     |_=>exact hr₂.elim
  |_=>exact hr.elim
end
end PySem
namespace L2
open PySem PySem.Spec PyProof.Rows SQ
section
variable {X:Cx}{a:Expr}{p pos p2 pos2:Pos}
def zub(X:Cx)(ta:TA):TE:=λσ H Q=>ta σ H λvs H1=>∃(b:Addr) (ns:List Int),vs = [.ref b]/\SqL X.K H1 b (ns.map V.int)/\ns.length<=4000/\∀(d:Addr) (ms:List Int),H1 d=none->ms.Pairwise (· < ·)->(∀x,x∈ms↔x∈ns)->Q (.ref d) (upd H1 d (.lst (ms.map V.int)))
theorem zgg{ta:TA}(hgl:Gl X "sorted")(hml:X.mg "sorted" = none)(hg:Gl X "set")(hm:X.mg "set" = none)(hc:X.calm=true)(ha:PA X [a] ta)(hs:starEach [a] X.env = [(false,eval a X.env)]:=by rfl)
  (hs2:starEach [.Call (.Name "set" p2) [a] [] pos2] X.env = [(false,eval (.Call (.Name "set" p2) [a] [] pos2) X.env)]:=by rfl) :
  PE X (.Call (.Name "sorted" p) [.Call (.Name "set" p2) [a] [] pos2] [] pos) (zub X ta):=by
 intro pins s σ H Q I h;refine Call_ (jo I hgl hml PyProof.Rows.boot_sorted (PyProof.Rows.callWith_builtin1 ?_ hs2 rfl));rw[hs2];show wpAny _ _ (spliced ((false,eval (.Call (.Name "set" p2) [a] [] pos2) X.env)::backTo pos [])) _ _ s;refine Calls.spliced_cons ?_;refine Call_ (jo I hg hm PyProof.Rows.boot_set (PyProof.Rows.callWith_type1 (thn (ha pos2 pins s σ H _ I h) λus s1 ⟨vs,H1,I1,r1,q1⟩=>?_) hs rfl));obtain⟨b,ns,e,hb,hl,q⟩:=q1;subst e
 cases r1 with
 |cons r rr=>
  cases rr
  cases r;obtain⟨its,rvs,plq,hz⟩:=I1.list hb;obtain⟨o,ho,hcl,n,hdt⟩:=plq.isList;have hi:=v3 rvs;have hln:ns.length=its.length:=by have:=rvs.length;rwa [List.length_map]at this
  refine zcn (items:=its.toArray) (ns:=ns) (I.ok.hd hc) ⟨o,ho,hcl,n,hdt⟩ (by simpa using hi) (by simp[scanBound];omega) λh1 tk hS hk=>Calls.spliced_nil ?_;rw[show its.toArray.size=ns.length by simp[hln]]at hS;obtain⟨so,es,ep,t,ks,hso,hex,hsd,hf,tb,hes,hks,nd,hmem⟩:=zml hS;have l1:s1.heap.objs.size<h1.objs.size:=Heap.lt_size hso;have hik:∀e∈es.toList,∃n t,e.2=Value.int n t:=λe he=>hks.all e.2 (List.mem_map.mpr ⟨e,he,rfl⟩);refine zkh (s:={ s1 with heap:=h1,toks:=tk }) (I.ok.hd hc) hso hex hsd hf tb (by rw[sizeLine_eq];omega) hik λvs out h2 d2 tk2 r e pv p1 p2 le he k2=>?_;have hkv:∀v∈vs,∃k,intK.keyOf v=some k:=λv hv=>by
   obtain⟨e,he,rfl⟩:=List.mem_map.mp (pv.mem_iff.mp hv);obtain⟨i,t,e2⟩:=hik e he;rw[e2];exact⟨i,rfl⟩
  obtain⟨pm,ms,a2,pw⟩:=zbc p1 p2 hkv;have ham:IntsAre (out.map (·.2)).toList ms:=by
   clear pm pw he;generalize (out.map (·.2)).toList=l at a2
   induction a2 with
   |nil=>exact .nil
   |@cons v k _ _ h t ih=>
    cases v <;> simp only[intK,reduceCtorEq,Option.some.injEq]at h
    subst h;exact .cons _ _ ih
  have pk:ms.Perm ks:=by
   rw[<-zi0 ham,<-zi0 hks];exact(pm.trans pv).map vI
  have pl:ms.Pairwise (· < ·):=by
   have h1:=pw.imp (S:=λa b:Int=>a<=b) λh=>by simpa[intK,KeyOrd.kle]using h
   have h2:=pk.nodup_iff.mpr nd;exact(h1.and h2).imp λ⟨h3,h4⟩=>Int.lt_iff_le_and_ne.mpr ⟨h3,h4⟩
  have hp:s1.heap.objs.size<=r:=Nat.le_trans (Nat.le_of_lt l1) le;have hn:=I1.hok.fresh hp;have lm:ms.length<=4000:=by rw[pk.length_eq,<-IntsAre.length hks,List.length_map,Array.length_toList];omega
  refine⟨.ref r,upd H1 r (.lst (ms.map V.int)),(I1.dr d2).laid (t':=tk2) (λb u e=>k2 _ _ (hk b u (Heap.lt_size e) e)) hp ⟨by rw[List.length_map,sizeLine_eq];omega,(out.map (·.2)).toList,e,zkg ham,by rw[he]⟩,rfl,q r ms hn pl λx=>(pk.mem_iff).trans (hmem x)⟩
def zuc(t:DTF):DTF:=λσ Q=>t σ λds=>match ds with
 |[.list ds]=>∃ns:List Int,ds=ns.map PyData.int/\ns.length<=4000/\∀ms:List Int,ms.Pairwise (· < ·)->(∀x,x∈ms↔x∈ns)->Q (ms.map PyData.int)
 |_=>False
theorem zgh{t:DTF}(hgl:Gl X "sorted")(hml:X.mg "sorted" = none)(hg:Gl X "set")(hm:X.mg "set" = none)(hc:X.calm=true)(ha:DAv X [a] t)(hs:starEach [a] X.env = [(false,eval a X.env)]:=by rfl)
  (hs2:starEach [.Call (.Name "set" p2) [a] [] pos2] X.env = [(false,eval (.Call (.Name "set" p2) [a] [] pos2) X.env)]:=by rfl) :
  DF X (.Call (.Name "sorted" p) [.Call (.Name "set" p2) [a] [] pos2] [] pos) (zuc t) :=
 DF.of (zgg hgl hml hg hm hc ha.pa hs hs2) λσ H H₀ σD QD ok q=>⟨H₀,σD,_,ok,q,λvs H1 ds s1 r1 q1=>by
  match ds,r1,q1 with
  |[.list ds],r1,q1=>
   cases r1 with
   |cons r t=>
   cases t;obtain⟨b,us,rfl,hb,r⟩:=r.list.sq;obtain⟨ns,rfl,hl,q1⟩:=q1;have e1:=Reps.of_ints r;subst e1;refine⟨b,ns,rfl,hb,hl,λd ms hd pw hm=>?_⟩;have n1:H d=none:=by
    cases z:H d with
    |none=>rfl
    |some u=>rw[s1 d u z]at hd;cases hd
   exact⟨d,_,_,rfl,s1.trans (zy hd _),n1,zm,Reps.ints,q1 ms pw hm⟩⟩
end
end L2
namespace L2
open PySem PySem.Spec PyProof.Rows
section
variable {X:Cx}{pos p:Pos}
end
section
variable {prog:Program}{w:World}{A:Around}{R:Result->Shared->Prop}{s:Shared}{elt t1 i1 t2 i2:Expr}{f1 f2:List Expr}{scope:Scope}{pos:Pos}{it acc:Value}{env:Env}
abbrev LC2(elt t1 i1 t2 i2:Expr)(f1 f2:List Expr)(scope:Scope)(pos:Pos):Expr:=.ListComp elt [⟨t1,i1,f1,0⟩,⟨t2,i2,f2,0⟩] scope pos
theorem zs6(elt t1 i1 t2 i2:Expr)(f1 f2:List Expr)(scope:Scope)(pos:Pos)(it acc:Value)(env:Env):compTurn (LC2 elt t1 i1 t2 i2 f1 f2 scope pos) 0 it acc env=(do
  standAt i1.pos
  match <-pyNext it with
  |none=>pure (.done .next)
  |some v=>
   letOwnedTupleGo t1 it v
   assign t1 env v
   let mut ok:=true
   for c in f1 do
    if ok then ok <-isTrue c env (eval c env)
   if ok then
    let x <-eval i2 env
    standAt i2.pos
    let x <-foldedSetIterable i2 env x
    let _ <-runOwn (.compStart (LC2 elt t1 i1 t2 i2 f1 f2 scope pos) 1 (<-holding [x] (pyIter x)) acc env) env
   again (.compLoop (LC2 elt t1 i1 t2 i2 f1 f2 scope pos) 0 it acc env)):=by rfl
theorem zs7(elt t1 i1 t2 i2:Expr)(f1 f2:List Expr)(scope:Scope)(pos:Pos)(it acc:Value)(env:Env):compTurn (LC2 elt t1 i1 t2 i2 f1 f2 scope pos) 1 it acc env=(do
  standAt i2.pos
  match <-pyNext it with
  |none=>pure (.done .next)
  |some v=>
   letOwnedTupleGo t2 it v
   assign t2 env v
   let mut ok:=true
   for c in f2 do
    if ok then ok <-isTrue c env (eval c env)
   if ok then
    (do let _ <-call (.builtin "list.append") [acc,<-eval elt env])
   again (.compLoop (LC2 elt t1 i1 t2 i2 f1 f2 scope pos) 1 it acc env)):=by rfl
theorem zkl(I:Nat->Shared->Prop)
  (turn:∀n s,I n s->wpAny (model prog w) A (pyNext it) (λr s1=>match r with
   |none=>R (.ok .next) s1
   |some v=>wpAny (model prog w) A (letOwnedTupleGo t2 it v) (λ_ s1'=>wpAny (model prog w) A (assign t2 env v) (λ_ s2=>
     wpAny (model prog w) A (forIn f2 true λc r=>if r=true then do let ok <-isTrue c env (eval c env);pure (ForInStep.yield ok) else pure (ForInStep.yield r)) (λok s3=>
      if ok=true then wpAny (model prog w) A (eval elt env) (λx s4=>
       wpAny (model prog w) A (call (.builtin "list.append") [acc,x]) (λ_ s5=>∃m,m<n/\I m s5) (λ_ _=>False) s4) (λ_ _=>False) s3
      else ∃m,m<n/\I m s3) (λ_ _=>False) s2) (λ_ _=>False) s1') (λ_ _=>False) s1) (λ_ _=>False) s)
  (n:Nat) (h:I n s):codeAny (model prog w) A (.compLoop (LC2 elt t1 i1 t2 i2 f1 f2 scope pos) 1 it acc env) R s:=by
 refine codeAny_loop rfl I (λn s hI=>?_) n h;show wpAny _ A ((compTurn (LC2 elt t1 i1 t2 i2 f1 f2 scope pos) 1 it acc env).onRaise (λx=>do noteFrame x env;theTreesLotGoes x)) _ _ s;refine wpAny_noted ?_;rw[zs7];refine wpAny_bind (wpAny_standAt (wpAny_bind (wpAny_mono (turn n s hI) (λr s1 h1=>?_) λ_ _ h'=>h'.elim)))
 cases r with
 |none=>exact wpAny_pure h1
 |some v=>
  refine wpAny_bind (wpAny_mono h1 (λ_ s1' h1'=>?_) λ_ _ h'=>h'.elim);refine wpAny_bind (wpAny_mono h1' (λ_ s2 h2=>wpAny_bind (wpAny_mono h2 (λok s3 h3=>?_) λ_ _ h'=>h'.elim)) λ_ _ h'=>h'.elim)
  cases ok with
  |false=>exact wpAny_pure ⟨rfl,h3⟩
  |true=>exact wpAny_bind (wpAny_bind (wpAny_mono h3 (λx s4 h4=>wpAny_bind (wpAny_mono h4 (λ_ s5 h5=>wpAny_pure (wpAny_pure ⟨rfl,h5⟩)) λ_ _ h'=>h'.elim)) λ_ _ h'=>h'.elim))
theorem zrt(h0:codeAny (model prog w) A (.compLoop (LC2 elt t1 i1 t2 i2 f1 f2 scope pos) 1 it acc env) R s)
  (h:wpAny (model prog w) A (pyIter it) (λit' s'=>codeAny (model prog w) A (.compLoop (LC2 elt t1 i1 t2 i2 f1 f2 scope pos) 1 it' acc env) R s') (λ_ _=>False) s) :
  codeAny (model prog w) A (.compStart (LC2 elt t1 i1 t2 i2 f1 f2 scope pos) 1 it acc env) R s:=by
 refine codeAny_of_tree ?_;show wpAny _ _ ((compStart (LC2 elt t1 i1 t2 i2 f1 f2 scope pos) 1 it acc env).onRaise (λx=>do noteFrame x env;standAt theWindowsPlace)) _ _ s;refine wpAny_notedAt ?_;unfold compStart;show wpAny _ _ (ask >>= _) _ _ s;refine wpAny_bind (wpAny_askSetting (wpAny_ite ?_))
 split
 ·first
   |exact wpAny_bind (wpAny_pure (wpAny_pure (And.intro rfl h0)))
   |exact wpAny_pure (And.intro rfl h0)
 ·refine wpAny_bind (wpAny_rule ?_);show wpAny _ _ (standAt i2.pos >>= _) _ _ s;exact wpAny_bind (wpAny_standAt (wpAny_bind (wpAny_mono h (λit' s' h'=>wpAny_pure (And.intro rfl h')) λ_ _ x=>x.elim)))
theorem zkm(I:Nat->Shared->Prop)(hs:∀x,foldedSetIterable i2 env x=pure x)
  (turn:∀n s,I n s->wpAny (model prog w) A (pyNext it) (λr s1=>match r with
   |none=>R (.ok .next) s1
   |some v=>wpAny (model prog w) A (letOwnedTupleGo t1 it v) (λ_ s1'=>wpAny (model prog w) A (assign t1 env v) (λ_ s2=>
     wpAny (model prog w) A (forIn f1 true λc r=>if r=true then do let ok <-isTrue c env (eval c env);pure (ForInStep.yield ok) else pure (ForInStep.yield r)) (λok s3=>
      if ok=true then wpAny (model prog w) A (eval i2 env) (λx s4=>wpAny (model prog w) A (pyIter x) (λit2 s5=>
       codeAny (model prog w) A (.compStart (LC2 elt t1 i1 t2 i2 f1 f2 scope pos) 1 it2 acc env) (λr s6=>match r with|.ok _=>∃m,m<n/\I m s6|.error _=>False) s5) (λ_ _=>False) s4) (λ_ _=>False) s3
      else ∃m,m<n/\I m s3) (λ_ _=>False) s2) (λ_ _=>False) s1') (λ_ _=>False) s1) (λ_ _=>False) s)
  (n:Nat) (h:I n s):codeAny (model prog w) A (.compLoop (LC2 elt t1 i1 t2 i2 f1 f2 scope pos) 0 it acc env) R s:=by
 refine codeAny_loop rfl I (λn s hI=>?_) n h;show wpAny _ A ((compTurn (LC2 elt t1 i1 t2 i2 f1 f2 scope pos) 0 it acc env).onRaise (λx=>do noteFrame x env;theTreesLotGoes x)) _ _ s;refine wpAny_noted ?_;rw[zs6];refine wpAny_bind (wpAny_standAt (wpAny_bind (wpAny_mono (turn n s hI) (λr s1 h1=>?_) λ_ _ h'=>h'.elim)))
 cases r with
 |none=>exact wpAny_pure h1
 |some v=>
  refine wpAny_bind (wpAny_mono h1 (λ_ s1' h1'=>?_) λ_ _ h'=>h'.elim);refine wpAny_bind (wpAny_mono h1' (λ_ s2 h2=>wpAny_bind (wpAny_mono h2 (λok s3 h3=>?_) λ_ _ h'=>h'.elim)) λ_ _ h'=>h'.elim)
  cases ok with
  |false=>exact wpAny_pure ⟨rfl,h3⟩
  |true=>
   refine wpAny_bind (wpAny_mono h3 (λx s4 h4=>?_) λ_ _ h'=>h'.elim);refine wpAny_bind (wpAny_standAt ?_);rw[hs x];refine wpAny_bind (wpAny_pure (wpAny_bind (wpAny_holding (wpAny_mono h4 (λit2 s5 h5=>?_) λ_ _ h'=>h'.elim))));refine wpAny_bind (wpAny_runOwn ?_);refine codeAny_mono h5 λr s6 h6=>?_
   cases r with
   |ok f=>exact wpAny_pure ⟨rfl,h6⟩
   |error e=>exact h6.elim
end
section
variable {X:Cx}
def zco(J:It)(D:Addr)(g:TG)(tt:TT)(wi2:TI)(g2:TG)(tt2:TT)(te:TE)(σ0:St)(H1:Hp)(Q:VK):Prop :=
 ∃W:Nat->Nat->St->Hp->Prop,(∃m,W 0 m σ0 (upd H1 D (.lst [])))/\∀i m σ H,W i m σ H ->
  (J.stop i H/\Q (.ref D) H)\/(J.go i H/\∀x H',J.yld i H x H'->g x σ H' λσ2 H2=>tt σ2 H2 λb H3=>
   if b=true then wi2 σ2 H3 λJ2 H4=>∃W2:Nat->Nat->St->Hp->Prop,(∃m2,W2 0 m2 σ2 H4)/\∀i2 n2 σ' H',W2 i2 n2 σ' H' ->
    (J2.stop i2 H'/\∃m',m' < m/\W (i+1) m' σ' H')\/(J2.go i2 H'/\∀x H5,J2.yld i2 H' x H5->g2 x σ' H5 λσ6 H6=>tt2 σ6 H6 λb H7=>
     if b=true then te σ6 H7 λy H8=>∃ys,H8 D=some (.lst ys)/\ys.length<sizeLine/\∃m',m' < n2/\W2 (i2+1) m' σ6 (upd H8 D (.lst (ys ++ [y])))
     else ∃m',m' < n2/\W2 (i2+1) m' σ6 H7)
   else ∃m',m' < m/\W (i+1) m' σ2 H3)
def zs8(k:Nat)(js:List Nat)(wi:TI)(g:TG)(tt:TT)(wi2:TI)(g2:TG)(tt2:TT)(te:TE):TE:=λσ H Q=>wi σ H λJ H1=>∀D,H1 D=none->zco J D g tt wi2 g2 tt2 te (yt k js σ) H1 Q
theorem zru{elt t1 i1 t2 i2:Expr}{f1 f2:List Expr}{scope:Scope}{pos:Pos}{cl:List (Str×Addr)}{N':List Str}{C:Addr}{fp:List Addr}{s2:Shared}{H2:Hp}{g2:TG}{tt2:TT}{te:TE}{D:Addr}
  (hg:PG (ye X N' scope cl C fp s2 H2) t2 g2) (ht:PTs (ye X N' scope cl C fp s2 H2) f2 tt2) (he:PE (ye X N' scope cl C fp s2 H2) elt te)
  {pins:List (Addr×Obj)}{σ:St}{H:Hp}{s:Shared}{J:It}{fq:List Addr}{it:Addr}{tn:Nat->Heap->Prop}{W:Nat->Nat->St->Hp->Prop}{Z:St->Hp->Prop}{m0:Nat}
  (I:Inv (ye X N' scope cl C fp s2 H2) pins σ H s) (T:zfh X.prog X.w X.K t2 J fq it tn) (st:tn 0 s.heap) (f:∀b∈fq,FpOk (ye X N' scope cl C fp s2 H2) pins H b) (w0:W 0 m0 σ H)
  (turn:∀i n σ' H',W i n σ' H'->(J.stop i H'/\Z σ' H')\/(J.go i H'/\∀x H5,J.yld i H' x H5->g2 x σ' H5 λσ6 H6=>tt2 σ6 H6 λb H7=>
   if b=true then te σ6 H7 λy H8=>∃ys,H8 D=some (.lst ys)/\ys.length<sizeLine/\∃m',m' < n/\W (i+1) m' σ6 (upd H8 D (.lst (ys ++ [y]))) else ∃m',m' < n/\W (i+1) m' σ6 H7)) :
  codeAny (model X.prog X.w) X.A (.compLoop (LC2 elt t1 i1 t2 i2 f1 f2 scope pos) 1 (.ref it) (.ref D) (compEnvC scope cl C X.env)) (λr s'=>match r with|.ok _=>∃σ' H',Inv (ye X N' scope cl C fp s2 H2) pins σ' H' s'/\Z σ' H'|.error _=>False) s:=by
 have stat:∀{H':Hp},(∀b∈fq,H' b=none)->∀b∈fq,FpOk (ye X N' scope cl C fp s2 H2) pins H' b:=λhn b hb=>⟨hn b hb,(f b hb).2⟩
 refine zkl (λn s'=>∃i σ' H',Inv (ye X N' scope cl C fp s2 H2) pins σ' H' s'/\tn i s'.heap/\(∀b∈fq,H' b=none)/\W i n σ' H') ?_ m0 ⟨0,_,_,I,st,λb hb=>(f b hb).1,w0⟩;rintro n s3 ⟨i,σ3,H3,I3,st3,fr3,w3⟩;rcases turn i n σ3 H3 w3 with⟨stop,qn⟩ |⟨go,step⟩
 ·refine thn (T.done (ye X N' scope cl C fp s2 H2) rfl rfl rfl rfl i pins s3 σ3 H3 (λ_ _=>False) I3 (stat fr3) st3 stop) λr s4 ⟨hr,J4⟩=>?_;subst hr;exact⟨σ3,H3,J4,qn⟩
 ·refine thn (T.item (ye X N' scope cl C fp s2 H2) rfl rfl rfl rfl i pins s3 σ3 H3 (λ_ _=>False) I3 (stat fr3) st3 go) λr s4 ⟨u,hr,h4⟩=>?_;subst hr;refine thn h4 λ_ s5 ⟨x,H5,I5,r5,y5,st5,fr5⟩=>?_;have I5':=I5.pinned (stat fr5) (T.obj _ _ st5);refine thn (hg _ s5 σ3 H5 x u _ I5' r5 (step x H5 y5)) λ_ s6 ⟨σ6,H6,I6,q6⟩=>?_;refine thn (ht _ s6 σ6 H6 _ I6 q6) λok s7 ⟨H7,I7,q7⟩=>?_
  have again:∀{H8:Hp}{s8:Shared},Inv (ye X N' scope cl C fp s2 H2) (pins++jq fq s5.heap) σ6 H8 s8->(∃m',m' < n/\W (i+1) m' σ6 H8)->∃m,m<n/\∃i σ' H',Inv (ye X N' scope cl C fp s2 H2) pins σ' H' s8/\tn i s8.heap/\(∀b∈fq,H' b=none)/\W i m σ' H':=λ{H8 s8} I8 n8=>by
   obtain⟨m',hm,w8⟩:=n8;refine⟨m',hm,i+1,σ6,H8,I8.unpinned,T.keep _ _ _ st5 λb hb o e=>(I8.pin (b,o) (List.mem_append_right _ (List.mem_append_right _ (xj hb e)))).1,λb hb=>?_,w8⟩;obtain⟨o,e,d⟩:=T.obj _ _ st5 b hb;exact(I8.pin (b,o) (List.mem_append_right _ (List.mem_append_right _ (xj hb e)))).2.1
  cases ok with
  |false=>
   rw[if_neg Bool.false_ne_true]at q7;exact again I7 q7
  |true=>
   rw[if_pos rfl]at q7;refine thn (he _ s7 σ6 H7 _ I7 q7) λy s8 ⟨v8,H8,I8,r8,q8⟩=>?_;obtain⟨ys,e8,z8,w8⟩:=q8;refine thn (za1 (X:=ye X N' scope cl C fp s2 H2) _ s8 σ6 H8 (.ref D) [v8] (.ref D) [y] (λv H=>∃m',m' < n/\W (i+1) m' σ6 H) I8 rfl (.cons r8 .nil) ⟨D,ys,v8,rfl,rfl,e8,z8,w8⟩) λ_ s9 ⟨v9,H9,I9,_,w9⟩=>?_;exact again I9 w9
theorem zkn{elt tg iter t2 i2:Expr}{ifs ifs2:List Expr}{wi2:TI}{g2:TG}{tt2:TT}{scope:Scope}{pos:Pos}{cl:List (Str×Addr)}{N' capt:List Str}{k:Nat}{js:List Nat}{g:TG}{tt:TT}{te:TE}{J:It}{fp:List Addr}{tn:Nat->Heap->Prop}{it:Addr}
  {pins:List (Addr×Obj)}{σ:St}{H2:Hp}{s2:Shared}{Q:VK}{E:Value->Shared->Prop} (hc:X.calm=true) (L:zcz X scope cl N' capt k js)
  (hg:∀C fp s2 H2,PG (ye X N' scope cl C fp s2 H2) tg g) (ht:∀C fp s2 H2,PTs (ye X N' scope cl C fp s2 H2) ifs tt) (hi2:∀C fp s2 H2,PI (ye X N' scope cl C fp s2 H2) t2 i2 wi2) (hg2:∀C fp s2 H2,PG (ye X N' scope cl C fp s2 H2) t2 g2) (ht2:∀C fp s2 H2,PTs (ye X N' scope cl C fp s2 H2) ifs2 tt2) (he:∀C fp s2 H2,PE (ye X N' scope cl C fp s2 H2) elt te) (hs2:∀C x,foldedSetIterable i2 (compEnvC scope cl C X.env) x=pure x)
  (I2:Inv X pins σ H2 s2) (T:zfh X.prog X.w X.K tg J fp it tn) (st2:tn 0 s2.heap) (f2:∀b∈fp,FpOk X pins H2 b) (q:∀D,H2 D=none->zco J D g tt wi2 g2 tt2 te (yt k js σ) H2 Q) :
  wpAny (model X.prog X.w) X.A (newList []) (λacc s3=>wpAny (model X.prog X.w) X.A (newFunctionEnv scope X.env.globals cl [] X.env.qual none .none (some X.env)) (λcenv s4=>
   codeAny (model X.prog X.w) X.A (.compStart (LC2 elt tg iter t2 i2 ifs ifs2 scope pos) 0 (.ref it) acc { cenv with scope:=relabel scope X.env }) (LcEnd X pins σ Q acc cenv.locals) s4) E s3) E s2:=by
 refine wpAny_newObj_type (wpAny_newFunctionEnv L.cell (by intro y hy;simp at hy) (λh₁ hns₁ hsb₁=>?_) L.kind);dsimp only at hns₁ hsb₁ ⊢;generalize hH2:s2.heap.push { cls:=.type "list",dict:=none,data:=.seq ([]:List Value).toArray }=G at hns₁ hsb₁ ⊢;have hC:G.objs.size=s2.heap.objs.size+1:=by rw[<-hH2,Heap.size_push]
 have hDC:s2.heap.objs.size≠G.objs.size:=by rw[hC];exact Nat.ne_of_lt (Nat.lt_succ_self _)
 have hCle:s2.heap.objs.size<=G.objs.size:=by rw[hC];exact Nat.le_succ _
 have below:∀b,b<s2.heap.objs.size->b≠G.objs.size:=λb hb=>by rw[hC];exact Nat.ne_of_lt (Nat.lt_succ_of_lt hb)
 have keep:∀b o,s2.heap.get? b=some o->h₁.get? b=some o:=λb o e=>hsb₁.extBut b o (below b (Heap.lt_size e)) (Heap.get?_push_of_some _ (hH2 ▸ Heap.get?_push_of_some _ e));have hl:h₁.get? s2.heap.objs.size=some { cls:=.type "list",data:=.seq #[] 0 }:=hsb₁.extBut _ _ hDC (Heap.get?_push_of_some _ (hH2 ▸ Heap.get?_push_size _ rfl));have ho2:=T.obj _ _ st2;have ok:(ye X N' scope cl G.objs.size fp s2 H2).Ok:=zo7 I2 hc L.kind hCle L.sub L.has f2 ho2;generalize hD:s2.heap.objs.size=D at hl hDC ⊢;generalize hCC:G.objs.size=C at hns₁ hsb₁ hDC hC hCle below ok ⊢;have hDle:s2.heap.objs.size<=D:=by rw[hD];exact Nat.le_refl _
 have I4:Inv (ye X N' scope cl C fp s2 H2) [] (yt k js σ) (upd H2 D (.lst [])) { s2 with heap:=h₁,toks:=s2.toks+([]:List (Str×Value)).length } :=
  zfn I2 ok hDle hCle hDC keep hns₁ hl L.sub L.cap L.hN L.hk
 obtain⟨W,⟨m0,w0⟩,turn⟩:=q D (I2.hok.fresh hDle);have tn0:tn 0 h₁:=T.keep _ _ _ st2 λb _ o e=>keep b o e;have fr0:∀b∈fp,upd H2 D (.lst []) b=none:=λb hb=>by
  obtain⟨o,e,_⟩:=ho2 b hb;rw[zh (Nat.ne_of_lt (Nat.lt_of_lt_of_le (Heap.lt_size e) hDle))];exact(f2 b hb).1
 have stat:∀{H':Hp},(∀b∈fp,H' b=none)->∀b∈fp,FpOk (ye X N' scope cl C fp s2 H2) [] H' b:=λhn b hb=>by
  refine⟨hn b hb,(ok.exf b hb).1,ok.exfs b hb,.inl hb,(ok.exf b hb).2,λp hp=>absurd (show p∈([]:List (Addr×Obj)) from hp) (by simp)⟩
 have loop:∀s₃:Shared,s₃ = { s2 with heap:=h₁,toks:=s2.toks+([]:List (Str×Value)).length } ->
   codeAny (model X.prog X.w) X.A (.compLoop (LC2 elt tg iter t2 i2 ifs ifs2 scope pos) 0 (.ref it) (.ref D) (compEnvC scope cl C X.env)) (LcEnd X pins σ Q (.ref D) C) s₃:=by
  rintro s₃ rfl;refine zkm (λn s'=>∃i σ' H',Inv (ye X N' scope cl C fp s2 H2) [] σ' H' s'/\tn i s'.heap/\(∀b∈fp,H' b=none)/\W i n σ' H') (hs2 C) ?_ m0 ⟨0,_,_,I4,tn0,fr0,w0⟩;rintro n s3 ⟨i,σ3,H3,I3,st3,fr3,w3⟩;rcases turn i n σ3 H3 w3 with⟨stop,qn⟩ |⟨go,step⟩
  ·refine thn (T.done (ye X N' scope cl C fp s2 H2) rfl rfl rfl rfl i [] s3 σ3 H3 (λ_ _=>False) I3 (stat fr3) st3 stop) λr s4 ⟨hr,J4⟩=>?_;subst hr;obtain⟨m,hn,_⟩:=id J4.loc;have hs:X.s₀.heap.objs.size<=C:=Nat.le_trans I2.sz hCle;refine⟨.next,D,H3,m,rfl,rfl,I2.call' (ch:=fp) J4.os J4.base J4.hok J4.bare (λb hb=>?_),qn,hn,J4.free,λz=>?_,hs,λx c h z=>?_,λp hp z=>?_⟩
   ·obtain⟨f0,f1,f2',f3,f4,f5⟩:=f2 b hb;exact⟨f3,f1,f4,f5⟩
   ·have:=I2.lt;rw[<-z]at this;exact absurd (Nat.lt_of_lt_of_le this hCle) (Nat.lt_irrefl _)
   ·obtain⟨v,o,z1,_⟩:=I2.cell x c h;have:=Heap.lt_size z1;rw[z]at this;exact absurd (Nat.lt_of_lt_of_le this hCle) (Nat.lt_irrefl _)
   ·have:=Heap.lt_size (I2.pin p hp).1;rw[z]at this;exact absurd (Nat.lt_of_lt_of_le this hCle) (Nat.lt_irrefl _)
  ·refine thn (T.item (ye X N' scope cl C fp s2 H2) rfl rfl rfl rfl i [] s3 σ3 H3 (λ_ _=>False) I3 (stat fr3) st3 go) λr s4 ⟨u,hr,h4⟩=>?_;subst hr;refine thn h4 λ_ s5 ⟨x,H5,I5,r5,y5,st5,fr5⟩=>?_;have I5':=I5.pinned (stat fr5) (T.obj _ _ st5);refine thn (hg C fp s2 H2 _ s5 σ3 H5 x u _ I5' r5 (step x H5 y5)) λ_ s6 ⟨σ6,H6,I6,q6⟩=>?_;refine thn (ht C fp s2 H2 _ s6 σ6 H6 _ I6 q6) λok s7 ⟨H7,I7,q7⟩=>?_
   have again:∀{σ8:St}{H8:Hp}{s8:Shared},Inv (ye X N' scope cl C fp s2 H2) ([]++jq fp s5.heap) σ8 H8 s8->(∃m',m' < n/\W (i+1) m' σ8 H8)->∃m,m<n/\∃i σ' H',Inv (ye X N' scope cl C fp s2 H2) [] σ' H' s8/\tn i s8.heap/\(∀b∈fp,H' b=none)/\W i m σ' H':=λ{σ8 H8 s8} I8 n8=>by
    obtain⟨m',hm,w8⟩:=n8;refine⟨m',hm,i+1,σ8,H8,I8.unpinned,T.keep _ _ _ st5 λb hb o e=>(I8.pin (b,o) (List.mem_append_right _ (List.mem_append_right _ (xj hb e)))).1,λb hb=>?_,w8⟩;obtain⟨o,e,d⟩:=T.obj _ _ st5 b hb;exact(I8.pin (b,o) (List.mem_append_right _ (List.mem_append_right _ (xj hb e)))).2.1
   cases ok with
   |false=>
    rw[if_neg Bool.false_ne_true]at q7;exact again I7 q7
   |true=>
    rw[if_pos rfl]at q7;refine thn (hi2 C fp s2 H2 _ s7 σ6 H7 _ I7 q7) λy s8 h8=>thn h8 λitv s9 h9=>?_;obtain⟨it2,fp2,tn2,J2,H9,e9,I9,T2,st9,f9,W2,⟨m2,w2⟩,turn2⟩:=h9;subst e9;have inner:=zru (pos:=pos) (i1:=iter) (t1:=tg) (f1:=ifs) (i2:=i2) (hg2 C fp s2 H2) (ht2 C fp s2 H2) (he C fp s2 H2) I9 T2 st9 f9 w2 turn2;refine zrt (codeAny_mono inner λr s10 h10=>?_) (T2.self _ 0 _ _ _ st9 (codeAny_mono inner λr s10 h10=>?_))
    all_goals
     cases r with
     |ok f=>
      obtain⟨σ10,H10,I10,w10⟩:=h10;exact again I10 w10
     |error e=>exact h10
 exact codeAny_compStart_list (loop _ rfl) (T.self _ 0 _ _ _ tn0 (loop _ rfl))
end
def zrv:Option W->Option W
 |some (.own _)=>none
 |some (.tmp _)=>none
 |w=>w
def vg(is:List Nat)(n:Nat):DSt->DSt
 |[]=>[]
 |w::ws=>(if n∈is then none else zrv w)::vg is (n+1) ws
theorem zi5(is:List Nat):∀(σ:DSt) (n j:Nat),n+j∈is->j<σ.length->(vg is n σ)[j]?=some none
 |[],_,_,_,h=>absurd h (Nat.not_lt_zero _)
 |w::ws,n,0,h,_=>by
  rw[Nat.add_zero]at h;simp[vg,h]
 |w::ws,n,j+1,h,hl=>by
  rw[vg,List.getElem?_cons_succ];exact zi5 is ws (n+1) j (by rw[show n+1+j=n+(j+1) by omega];exact h) (by simpa using hl)
section
variable {K:PySem.W.Frag}{H₀ H H':Hp}
theorem Slots.dry(is:List Nat)(p:Pers H H'){σD:DSt}{σ:St}{fp:List Addr}(h:Slots K H₀ H σD σ fp):∀n,Slots K H₀ H' (vg is n σD) σ []:=by
 induction h with
 |nil=>exact λn=>.nil
 |none t ih=>
  intro n;unfold vg
  split <;> exact .none (ih _)
 |val r t ih=>
  intro n;unfold vg
  split
  ·exact .none (ih _)
  ·exact .val (r.mono p) (ih _)
 |vw r t ih=>
  intro n;unfold vg
  split
  ·exact .none (ih _)
  ·exact .vw r (ih _)
 |vd r t ih=>
  intro n;unfold vg
  split
  ·exact .none (ih _)
  ·exact .vd r (ih _)
 |exc r t ih=>
  intro n;unfold vg
  split
  ·exact .none (ih _)
  ·exact .exc r (ih _)
 |scr r t ih=>
  intro n;unfold vg
  split
  ·exact .none (ih _)
  ·exact .scr r (ih _)
 |pen r t ih=>
  intro n;unfold vg
  split
  ·exact .none (ih _)
  ·exact .pen (p _ _ r rfl) (ih _)
 |tmp r t ih=>
  intro n;unfold vg
  split <;> exact .none (ih _)
 |own r t ih=>
  intro n;unfold vg
  split <;> exact .none (ih _)
theorem DOk.dry(is:List Nat)(p:Pers H H')(sm:Same H₀ H'){σD:DSt}{σ:St}(h:DOk K H₀ H σD σ):DOk K H₀ H' (vg is 0 σD) σ:=by
 obtain⟨s,fp,sl,nd,hf⟩:=h;exact⟨sm,[],sl.dry is p 0,List.nodup_nil,λa ha=>by cases ha⟩
end
def zhs(f:D->(Option D->Prop)->Prop):List D->List D->(List D->Prop)->Prop
 |[],acc,Q=>Q acc
 |e::es,acc,Q=>f e λo=>match o with
  |some y=>acc.length<sizeLine/\zhs f es (acc ++ [y]) Q
  |none=>zhs f es acc Q
def zgi(g:DTG)(tt:DTT)(ti2:DTF)(is2:List Nat)(g2:DTG)(tt2:DTT)(te:DTE)(σ0:DSt):List D->List D->(List D->Prop)->Prop
 |[],acc,Q=>Q acc
 |d::ds,acc,Q=>g d σ0 λσ1=>tt σ1 λb=>if b=true then ti2 σ1 λes=>zhs (lcF g2 tt2 te (vg is2 0 σ1)) es acc λacc'=>zgi g tt ti2 is2 g2 tt2 te σ0 ds acc' Q else zgi g tt ti2 is2 g2 tt2 te σ0 ds acc Q
def zox(k:Nat)(js:List Nat)(ti:DTF)(g:DTG)(tt:DTT)(ti2:DTF)(is2:List Nat)(g2:DTG)(tt2:DTT)(te:DTE):DTF:=λσ Q=>ti σ λds=>zgi g tt ti2 is2 g2 tt2 te (xc k js σ) ds [] Q
section
variable {X:Cx}{elt tg iter t2 i2:Expr}{ifs ifs2:List Expr}{scope:Scope}{pos:Pos}{cl:List (Str×Addr)}{N' capt:List Str}{k:Nat}{js is is2:List Nat}{ti ti2:DTF}{g g2:DTG}{tt tt2:DTT}{te:DTE}
theorem zko{σ:St}{σD:DSt}{H₀ H1:Hp}{J:It}{ds:List D}{QD:List D->Prop}{Dd:Addr}(ok:DOk X.K H₀ H1 σD σ)(it:ItOk X.K Same J H1 ds)(his:∀j∈is,j<k)(his2:∀j∈is2,j<k)(hn:H1 Dd=none)(q1:zgi g tt ti2 is2 g2 tt2 te (xc k js σD) ds [] QD):
  zco J Dd (cnG X.K is g) (cnT X.K tt) (cnI X.K Pers ti2) (cnG X.K is2 g2) (cnT X.K tt2) (cnE X.K te) (yt k js σ) H1 (λv H'=>∃a vs xs,v=.ref a/\Same H1 H'/\H1 a=none/\H' a=some (.lst vs)/\Reps X.K H' xs vs/\QD xs):=by
 refine⟨λi m σ' H'=>m=ds.length-i/\i<=ds.length/\Same H1 H'/\σ'.length=(yt k js σ).length/\(∀j,k<=j->σ'[j]?=(yt k js σ)[j]?)/\∃acc vs,H' Dd=some (.lst vs)/\Reps X.K H' acc vs/\zgi g tt ti2 is2 g2 tt2 te (xc k js σD) (ds.drop i) acc QD,
  ⟨ds.length,rfl,Nat.zero_le _,zy hn _,rfl,λ_ _=>rfl,[],[],zm,.nil,q1⟩,?_⟩
 rintro i m σ' H' ⟨rfl,hi,sm,hl,fr,acc,vs,eD,ra,q1⟩;have ok1:DOk X.K H1 H' (xc k js σD) σ':=by
  refine DOk.keepN ((ok.block k js).after sm) hl λj=>?_
  by_cases hj:j<k
  ·left;unfold xc;rw[List.getElem?_append_left (by simpa using hj),List.getElem?_replicate,if_pos hj]
  ·right;exact fr j (by omega)
 by_cases hlt:i<ds.length
 ·have e:ds[i]?=some ds[i]:=by simp[hlt]
  obtain⟨go,yl⟩:=it.go H' i ds[i] sm e;refine .inr ⟨go,λx H2 y=>?_⟩;obtain⟨s2,r2⟩:=yl x H2 y;rw[List.drop_eq_getElem_cons hlt]at q1;refine⟨H1,xc k js σD,ds[i],_,ok1.after s2,r2,q1,λσ2 σD2 l2 ok2 f2 q2=>?_⟩;have fr2:∀j,k<=j->σ2[j]?=(yt k js σ)[j]?:=λj hj=>by rw[f2 j (λz=>absurd (his j z) (by omega)),fr j hj]
  refine⟨H1,σD2,_,ok2,q2,λb H4 s4 q4=>?_⟩
  cases b with
  |false=>
   rw[if_neg Bool.false_ne_true]at q4 ⊢;exact⟨ds.length-(i+1),by omega,rfl,hlt,(sm.trans s2).trans s4,l2.trans hl,fr2,acc,vs,s4 _ _ (s2 _ _ eD),(ra.same s2).same s4,q4⟩
  |true=>
   rw[if_pos rfl]at q4 ⊢;refine⟨H1,σD2,_,ok2.after s4,q4,λJ2 H5 es s5 it5 q5=>?_⟩;have ok5:=(ok2.after s4).after s5;refine⟨λi2 n2 σ6 H6=>n2=es.length-i2/\i2<=es.length/\Pers H5 H6/\Same H1 H6/\σ6.length=σ2.length/\(∀j,j∉is2->σ6[j]?=σ2[j]?)/\∃acc vs,H6 Dd=some (.lst vs)/\Reps X.K H6 acc vs/\zhs (lcF g2 tt2 te (vg is2 0 σD2)) (es.drop i2) acc (λacc'=>zgi g tt ti2 is2 g2 tt2 te (xc k js σD) (ds.drop (i+1)) acc' QD),
    ⟨es.length,rfl,Nat.zero_le _,Pers.refl _,((sm.trans s2).trans s4).trans s5,rfl,λ_ _=>rfl,acc,vs,s5 _ _ (s4 _ _ (s2 _ _ eD)),((ra.same s2).same s4).same s5,q5⟩,?_⟩
   rintro j2 n2 σ6 H6 ⟨rfl,hj,p6,sm6,l6,f6,acc,vs,eD6,ra6,q6⟩;have okB:DOk X.K H1 H6 (vg is2 0 σD2) σ6:=by
    refine DOk.keepN (ok5.dry is2 p6 sm6) l6 λj=>?_
    by_cases hj:j∈is2
    ·by_cases hjl:j<σD2.length
     ·exact .inl (zi5 is2 σD2 0 j (by rw[Nat.zero_add];exact hj) hjl)
     ·right;have h1:=ok5.len;rw[List.getElem?_eq_none (by omega),List.getElem?_eq_none (by omega)]
    ·exact .inr (f6 j hj)
   by_cases hlt2:j2<es.length
   ·have e2:es[j2]?=some es[j2]:=by simp[hlt2]
    obtain⟨go2,yl2⟩:=it5.go H6 j2 es[j2] p6 e2;refine .inr ⟨go2,λx7 H7 y7=>?_⟩;obtain⟨s7,r7⟩:=yl2 x7 H7 y7;rw[List.drop_eq_getElem_cons hlt2]at q6;refine⟨H1,vg is2 0 σD2,es[j2],_,okB.after s7,r7,q6,λσ8 σD8 l8 ok8 f8 q8=>?_⟩;have fr8:∀j,j∉is2->σ8[j]?=σ2[j]?:=λj hj=>(f8 j hj).trans (f6 j hj);refine⟨H1,σD8,_,ok8,q8,λb H9 s9 q9=>?_⟩
    cases b with
    |false=>
     rw[if_neg Bool.false_ne_true]at q9 ⊢;exact⟨es.length-(j2+1),by omega,rfl,hlt2,p6.trans (s7.trans s9).pers,(sm6.trans s7).trans s9,l8.trans l6,fr8,acc,vs,s9 _ _ (s7 _ _ eD6),(ra6.same s7).same s9,q9⟩
    |true=>
     rw[if_pos rfl]at q9 ⊢;refine⟨H1,σD8,_,ok8.after s9,q9,λy H10 dy s10 r10 q10=>?_⟩;have eD10:=s10 _ _ (s9 _ _ (s7 _ _ eD6));have ra10:=((ra6.same s7).same s9).same s10;refine⟨vs,eD10,by rw[<-ra10.length];exact q10.1,es.length-(j2+1),by omega,rfl,hlt2,(p6.trans ((s7.trans s9).trans s10).pers).trans (vn eD10 rfl),?_,l8.trans l6,fr8,acc ++ [dy],vs ++ [y],zm,?_,q10.2⟩
     ·exact Same.but (((sm6.trans s7).trans s9).trans s10) hn But.write
     ·exact(ra10.append (.cons r10 .nil)).mono (vn eD10 rfl)
   ·have e2:j2=es.length:=by omega
    subst e2;rw[List.drop_length]at q6;exact .inl ⟨it5.stop H6 p6,ds.length-(i+1),by omega,rfl,hlt,sm6,(l6.trans l2).trans hl,λj hj=>(f6 j λz=>absurd (his2 j z) (by omega)).trans (fr2 j hj),acc,vs,eD6,ra6,q6⟩
 ·have e:i=ds.length:=by omega
  subst e;rw[List.drop_length]at q1;exact .inl ⟨it.stop H' sm,Dd,vs,acc,rfl,sm,hn,eD,ra,q1⟩
end
section
variable {X:Cx}
theorem zkp{i:Nat}{x:Str}{elt tg iter t2 i2:Expr}{ifs ifs2:List Expr}{wi2:TI}{g2:TG}{tt2:TT}{scope:Scope}{pos pos' spos:Pos}{cl:List (Str×Addr)}{N' capt:List Str}{k:Nat}{js:List Nat}{wi:TI}{g:TG}{tt:TT}{te:TE}(hN:X.N.Nodup)(hi':X.N[i]?=some x)(hx:Loc X.env.scope x)(hc:X.calm=true)(L:zcz X scope cl N' capt k js)
  (hi:PI X tg iter wi) (hg:∀C fp s2 H2,PG (ye X N' scope cl C fp s2 H2) tg g) (ht:∀C fp s2 H2,PTs (ye X N' scope cl C fp s2 H2) ifs tt) (hi2:∀C fp s2 H2,PI (ye X N' scope cl C fp s2 H2) t2 i2 wi2) (hg2:∀C fp s2 H2,PG (ye X N' scope cl C fp s2 H2) t2 g2) (ht2:∀C fp s2 H2,PTs (ye X N' scope cl C fp s2 H2) ifs2 tt2) (he:∀C fp s2 H2,PE (ye X N' scope cl C fp s2 H2) elt te) (hs2:∀C x,foldedSetIterable i2 (compEnvC scope cl C X.env) x=pure x:=by intro _ _;rfl)
  (hsw:swapsWith (LC2 elt tg iter t2 i2 ifs ifs2 scope pos) (some (.Name x pos')) spos.line X.env=pure true:=by rfl)
  (hs:∀x,foldedSetIterable iter X.env x=pure x:=by intro _;rfl) (hf:X.fn x=true\/X.env.scope.names.lookup x=some .local:=by first|exact .inl rfl|exact .inr rfl|assumption):PS X (.Assign [.Name x pos'] (LC2 elt tg iter t2 i2 ifs ifs2 scope pos) spos) (zni (zs8 k js wi g tt wi2 g2 tt2 te) (zkv i)):=by
 intro pins s σ H D I h;have h:zs8 k js wi g tt wi2 g2 tt2 te σ H (λv H1=>D.nx (σ.set i (some v)) H1):=h;rw[exec_Assign_Name_used _ _ _ _ hsw];refine wpAny_bind (wpAny_standAt (wpAny_bind ?_));show wpAny _ X.A (do let _ <-comprehension (LC2 elt tg iter t2 i2 ifs ifs2 scope pos) scope X.env _ (newList []) false (eval iter X.env) (some (assign (.Name x pos') X.env))) _ _ s;refine wpAny_bind (wpAny_mono (wpAny_comprehension_free (use:=some (assign (.Name x pos') X.env)) (Q:=λ_ s'=>SP X pins D .next s') rfl hs L.clos L.kind L.names
  (thn (hi pins s σ H _ I h) λv s1 h1=>thn h1 λitv s2 h2=>?_)) (λ_ s' hq=>wpAny_pure (wpAny_pure hq)) λ_ _ e=>e)
 obtain⟨it,fp,tn,J,H2,e,I2,T,st2,f2,q⟩:=h2;subst e;refine thn (zkn (E:=X.xe) hc L hg ht hi2 hg2 ht2 he hs2 I2 T st2 f2 q) λacc s3 h3=>thn h3 λcenv s4 h4=>codeAny_mono h4 λr s' hr=>?_;obtain⟨f,D',H',m,rfl,rfl,J',qq,hn,b1,b2,b3,b4,b5⟩:=hr;show wpAny _ X.A (assign (.Name x pos') X.env (.ref D')) _ _ _;refine wpAny_assign_Name (zaz (v:=.ref D') J' hN hi' hx rfl (λs'' J'' hsb=>?_) hf);obtain⟨a,hsb,ha⟩:=hsb;have hne:cenv.locals≠a:=by
  rcases ha with z|z
  ·rw[z];exact b2
  ·exact λz'=>b4 x a z z'.symm
 exact⟨m,hn.sameBut hsb hne,λh' hs'=>⟨_,H',LcEnd.let_go J'' b1 b2 b3 b4 b5 hs',qq⟩⟩
variable {elt tg iter t2 i2:Expr}{ifs ifs2:List Expr}{scope:Scope}{pos:Pos}{cl:List (Str×Addr)}{N' capt:List Str}{k:Nat}{js is is2:List Nat}{ti ti2:DTF}{g g2:DTG}{tt tt2:DTT}{te:DTE}
theorem zht{i:Nat}{x:Str}{pos' spos:Pos}(hN:X.N.Nodup)(hi':X.N[i]?=some x)(hx:Loc X.env.scope x)(hc:X.calm=true)(L:zcz X scope cl N' capt k js)
  (hi:DIw X tg iter ti) (hg:∀C fp s2 H2,DG (ye X N' scope cl C fp s2 H2) tg is g) (ht:∀C fp s2 H2,DTs (ye X N' scope cl C fp s2 H2) ifs tt)
  (hi2:∀C fp s2 H2,DI (ye X N' scope cl C fp s2 H2) t2 i2 ti2) (hg2:∀C fp s2 H2,DG (ye X N' scope cl C fp s2 H2) t2 is2 g2) (ht2:∀C fp s2 H2,DTs (ye X N' scope cl C fp s2 H2) ifs2 tt2)
  (he:∀C fp s2 H2,DE (ye X N' scope cl C fp s2 H2) elt te) (his:∀j∈is,j<k) (his2:∀j∈is2,j<k) (hs2:∀C x,foldedSetIterable i2 (compEnvC scope cl C X.env) x=pure x)
  (hsw:swapsWith (LC2 elt tg iter t2 i2 ifs ifs2 scope pos) (some (.Name x pos')) spos.line X.env=pure true) (hs:∀x,foldedSetIterable iter X.env x=pure x) (hf:X.fn x=true\/X.env.scope.names.lookup x=some .local)
  {pins:List (Addr×Obj)}{s:Shared}{σ:St}{H H₀:Hp}{σD:DSt}{Q:List D->Prop} (I:Inv X pins σ H s) (ok:DOk X.K H₀ H σD σ) (q:zox k js ti g tt ti2 is2 g2 tt2 te σD Q) :
  wpAny (model X.prog X.w) X.A (exec (.Assign [.Name x pos'] (LC2 elt tg iter t2 i2 ifs ifs2 scope pos) spos) X.env) (λf s'=>f=.next/\∃a H' vs xs,Inv X pins (σ.set i (some (.ref a))) H' s'/\Same H H'/\H a=none/\H' a=some (.lst vs)/\Reps X.K H' xs vs/\Q xs) X.xe s:=by
 refine thn (zkp (wi:=cnI X.K Same ti) (g:=cnG X.K is g) (tt:=cnT X.K tt) (wi2:=cnI X.K Pers ti2) (g2:=cnG X.K is2 g2) (tt2:=cnT X.K tt2) (te:=cnE X.K te) hN hi' hx hc L hi.pi (λC fp s2 H2=>(hg C fp s2 H2).pg) (λC fp s2 H2=>(ht C fp s2 H2).pts) (λC fp s2 H2=>(hi2 C fp s2 H2).pi) (λC fp s2 H2=>(hg2 C fp s2 H2).pg) (λC fp s2 H2=>(ht2 C fp s2 H2).pts) (λC fp s2 H2=>(he C fp s2 H2).pe) hs2 hsw hs hf pins s σ H
  { nx:=λσ' H'=>∃a vs xs,σ'=σ.set i (some (.ref a))/\Same H H'/\H a=none/\H' a=some (.lst vs)/\Reps X.K H' xs vs/\Q xs,rt:=λ_ _=>False } I ?_) λf s' z=>?_
 ·refine⟨H₀,σD,_,ok,q,λJ H1 ds s1 it q1 Dd hn=>?_⟩;obtain⟨W,w0,turn⟩:=zko (ok.after s1) it his his2 hn q1;refine⟨W,w0,λi m σ' H' w=>?_⟩;rcases turn i m σ' H' w with⟨st,aa,vs,xs,e,sm,n,e2,r,qd⟩|h
  ·exact .inl ⟨st,aa,vs,xs,by rw[e],s1.trans sm,s1.free n,e2,r,qd⟩
  ·exact .inr h
 ·cases f with
  |next=>obtain⟨σ',H',I',a,vs,xs,rfl,sm,n,e,r,q⟩:=z;exact⟨rfl,a,H',vs,xs,I',sm,n,e,r,q⟩
  |ret u=>obtain⟨_,_,_,_,_,z⟩:=z;exact z.elim
  |brk=>obtain⟨_,_,_,z⟩:=z;exact z.elim
  |cont=>obtain⟨_,_,_,z⟩:=z;exact z.elim
theorem zkq{i:Nat}{x:Str}{pos' spos:Pos}(hN:X.N.Nodup)(hi':X.N[i]?=some x)(hx:Loc X.env.scope x)(hc:X.calm=true)(L:zcz X scope cl N' capt k js)
  (hi:DIw X tg iter ti) (hg:∀C fp s2 H2,DG (ye X N' scope cl C fp s2 H2) tg is g) (ht:∀C fp s2 H2,DTs (ye X N' scope cl C fp s2 H2) ifs tt)
  (hi2:∀C fp s2 H2,DI (ye X N' scope cl C fp s2 H2) t2 i2 ti2) (hg2:∀C fp s2 H2,DG (ye X N' scope cl C fp s2 H2) t2 is2 g2) (ht2:∀C fp s2 H2,DTs (ye X N' scope cl C fp s2 H2) ifs2 tt2)
  (he:∀C fp s2 H2,DE (ye X N' scope cl C fp s2 H2) elt te) (his:∀j∈is,j<k:=by decide) (his2:∀j∈is2,j<k:=by decide) (hs2:∀C x,foldedSetIterable i2 (compEnvC scope cl C X.env) x=pure x:=by intro _ _;rfl)
  (hsw:swapsWith (LC2 elt tg iter t2 i2 ifs ifs2 scope pos) (some (.Name x pos')) spos.line X.env=pure true:=by rfl) (hs:∀x,foldedSetIterable iter X.env x=pure x:=by intro _;rfl) (hf:X.fn x=true\/X.env.scope.names.lookup x=some .local:=by first|exact .inl rfl|exact .inr rfl|assumption) :
  DS X (.Assign [.Name x pos'] (LC2 elt tg iter t2 i2 ifs ifs2 scope pos) spos) (zl0 i (dFz (zox k js ti g tt ti2 is2 g2 tt2 te))):=⟨λpins s σ H H₀ σD Dn I ok q=>by
 refine thn (zht hN hi' hx hc L hi hg ht hi2 hg2 ht2 he his his2 hs2 hsw hs hf I ok q) λf s' ⟨ef,a,H',vs,xs,I',sm,n,e,r,qd⟩=>?_;subst ef;obtain⟨H'',J,sm',r'⟩:=za5 I' sm n e r;exact⟨_,H'',_,J,(ok.after sm').setV r' i,sm'.pers,qd⟩⟩
end
section
variable {X:Cx}{e:Expr}{es:List Expr}{pos:Pos}{i j:Nat}{sp:zkd}{t:zke}
end
section
variable {K:PySem.W.Frag}{H₀ H Hb H':Hp}{σD:DSt}{σ:St}
end
section
variable {X:Cx}{elt tg iter:Expr}{ifs:List Expr}{scope:Scope}{pos:Pos}{cl:List (Str×Addr)}{N' capt:List Str}{k:Nat}{js is:List Nat}{ti:DTF}{g:DTG}{tt:DTT}{sp:zkd}{t:zke}
end
section
variable {X:Cx}
variable {o e:Expr}{to te:DTE}{apos cpos:Pos}
end
end L2
namespace SQ
open PySem PyProof.Rows
set_option autoImplicit false
def zud(h:Heap)(v:Value)(is:List Int):Prop:=∃a its n t u js,v=.ref a/\IsTup h a its/\its.toList = [.int n t,u]/\RefIs h u js/\is=n::js
open Classical in
noncomputable def zue (h:Heap) (v:Value):Option (List Int):=if x:∃is,zud h v is then some x.choose else none
@[reducible] noncomputable def prK (h:Heap):KeyKind:={ zhb h with keyOf:=λv=>zue h v }
section
variable {prog:Program}{w:World}{A:Around}{E:Value->Shared->Prop}{s:Shared}
theorem items_int{vs:List Value}{ns:List Int}(h:IntsAre vs ns):ItemsAre (intKind prog w) ns vs:=by
 induction h with
 |nil=>exact .nil
 |cons n t h ih=>exact .cons (by simp[intKind,Value.isInt]) ih
end
end SQ
namespace L2
open PySem PySem.Spec PyProof.Rows SQ
section
variable {X:Cx}{pins:List (Addr×Obj)}{σ:St}{H:Hp}{s:Shared}
end
end L2
namespace L2
open PySem PySem.Spec PyProof.Rows SQ
section
variable {X:Cx}{pins:List (Addr×Obj)}{σ:St}{H:Hp}{s:Shared}
end
section
variable {X:Cx}{a body:Expr}{ta:DTF}{tb:DTE}{p pos kp lp:Pos}{k:Nat}{P c:Addr}{q y:Str}{params:Arguments}{scope:Scope}{N:List Str}
end
end L2
namespace PySem.AutoSeq1
open PySem.MeetsSeq PySem.MeetsSeq2 PySem.MeetsSeq3
end PySem.AutoSeq1
namespace L2
open PySem PySem.Spec PyProof.Rows
section
variable {X:Cx}{e:Expr}{te:DTE}{pos:Pos}
end
section
variable {X:Cx}
end
section
variable {K:PySem.W.Frag}{H:Hp}
end
section
variable {X:Cx}{tk te:DTE}{pos:Pos}
end
section
variable {X:Cx}{tk te:DTE}{pos:Pos}
end
theorem KV.at{κ:Type}:∀{vs:List (κ×V)}{ws:List (κ×Value)}{i:Nat}{k:κ}{v:V},KV vs ws->vs[i]?=some (k,v)->∃u,ws[i]?=some (k,u)
 |[],_,_,_,_,_,e=>by simp at e
 |p::vs,ws,i,k,v,h,e=>by
  cases h with
  |cons r t=>
   cases i with
   |zero=>
    simp at e;subst e
    rename_i b l
    obtain⟨k',u⟩:=b;have z:k=k':=r.1;subst z;exact⟨u,rfl⟩
   |succ i=>
    obtain⟨u,hu⟩:=KV.at t (show vs[i]?=some (k,v) by simpa using e);exact⟨u,by simpa using hu⟩
section
variable {X:Cx}{pins:List (Addr×Obj)}{σ:St}{H:Hp}{s:Shared}{a:Addr}{o:Obj}
end
section
variable {X:Cx}{tg:Expr}
theorem RepK.at{K:PySem.W.Frag}{H:Hp}:∀{kvs:List (D×D)}{vs:List (Key×V)}{i:Nat}{d:D},RepK K H kvs vs->(kvs.map (·.1))[i]?=some d->∃k v,vs[i]?=some (k,v)/\d=kD k
 |_,_,i,d,.nil,e=>by simp at e
 |_,_,i,d,.cons (k:=k) (v:=v) r t,e=>by
  cases i with
  |zero=>simp at e;exact⟨k,v,rfl,e.symm⟩
  |succ i=>
   obtain⟨k',v',h1,h2⟩:=RepK.at t (i:=i) (by simpa using e);exact⟨k',v',by simpa using h1,h2⟩
theorem RepK.len{K:PySem.W.Frag}{H:Hp}:∀{kvs:List (D×D)}{vs:List (Key×V)},RepK K H kvs vs->kvs.length=vs.length
 |_,_,.nil=>rfl
 |_,_,.cons r t=>by rw[List.length_cons,List.length_cons,RepK.len t]
end
section
variable {K:PySem.W.Frag}{H₀ H:Hp}{σD:DSt}{σ:St}
def dP(ks:List (Key×D)):List (D×D):=ks.map λp=>(kD p.1,p.2)
theorem zrw{a b:Key}(h:kD a=kD b):a=b:=by
 cases a <;> cases b <;> simp[kD]at h <;> rw[h]
theorem RepK.kv:∀{ks:List (Key×D)}{vs:List (Key×V)},RepK K H (dP ks) vs->RepKV K H ks vs
 |[],vs,h=>by cases h;exact RepKV.nil'
 |(k,d)::ks,vs,h=>by
  generalize hg:dP ((k,d)::ks)=l at h
  cases h with
  |nil=>cases hg
  |cons r t=>
   simp only[dP,List.map_cons,List.cons.injEq,Prod.mk.injEq]at hg;obtain⟨⟨h1,rfl⟩,rfl⟩:=hg
   cases zrw h1;exact RepKV.cons r (RepK.kv t)
end
section
variable {X:Cx}
end
section
variable {X:Cx}{o:Expr}{td:TE}{p pos apos cpos:Pos}
end
section
variable {prog:Program}{w:World}{A:Around}{E:Value->Shared->Prop}
variable {κ:Type}[DecidableEq κ]{knd:KeyKind prog w κ}
end
section
variable {X:Cx}{e:Expr}{p pos:Pos}
end
section
variable {X:Cx}
end
section
variable {X:Cx}{a:Expr}{te:DTE}{p pos:Pos}
end
structure zuq(K:PySem.W.Frag)(mg:Str->Option Value)(c:Str)(C:Addr)(fs:List Str):Prop where
 m:mg c=some (.ref C)
 n:PySem.W.nsIn K mainGlobals c=some (some (.ref C))
 c:Cls K C
 f:∀f∈fs,zqa K C f
section
variable {X:Cx}{e e2:Expr}{es:List Expr}{te:DTE}{t:DTP}{pos:Pos}{c f m x:Str}{C g:Addr}{i j k k':Nat}{ps fs:List Str}{sp:zkd}{tg:zke}
end
section
variable {X:Cx}
theorem zmv{L:List Str}{CK:Addr}{k kg k' i:Nat}{g n kn:Str}{ps pg:List Str}{sp:zbp}{spg:DSp}{t:DTP}{e:Expr}{es:List Expr}{kp0 hpos gp np gpos rpos2 cpos:Pos}{f:Addr}{fd:FuncData}{pins:List (Addr×Obj)}{s:Shared}{σ:St}{H H₀:Hp}{σD:DSt}{Dn:x4}
  (F:FnOk X.prog X.w X.K X.mg X.base (CXk X.prog X.w) k f fd ps (xu X.K sp)) (b:Binds X.K fd ps []) (kp:PySem.W.keepIn X.K (.ref f)=true) (G:zap X.prog X.w X.K X.mg X.base kg g pg (y0 X.K spg)) (hr:Room k' X.A) (hm:X.mg kn=some (.ref CK)) (hL:∀y∈L,∀D,PySem.W.nsIn X.K mainGlobals y=some (some (.ref D))->zoj X.K CK D)
  (hN:X.N.Nodup) (hi:X.N[i]?=some n) (hl:X.env.scope.names.lookup n=some .local) (hgg:Gl X g) (hgk:Gl X kn) (hX:X.stack=X.env::X.outer) (hF:X.env.frame=some X.env.locals) (ha:DPs X (e::es) t)
  (hk:k<=k') (hkg:kg<=k') (hdg:(g ==("__debug__" : Str))=false) (hdk:(kn ==("__debug__" : Str))=false)
  (hdn:(n ==("__debug__" : Str))=false) (hcn:(n ==("__classdict__" : Str))=false)
  (he:starEach (e::es) X.env=(false,eval e X.env)::starEach es X.env) (hpl:(backTo cpos (starEach es X.env)).any (·.1)=false) (hnox:X.xe=λ_ _=>False)
  (I:Inv X pins σ H s) (ok:DOk X.K H₀ H σD σ) (q:t σD λws=>sp ws (λr=>Dn.rt r) λx=>x.1∈L/\spg [.exc x] λr=>Dn.rt r) :
  wpAny (model X.prog X.w) X.A (callWith cpos (.ref f) [] (backTo cpos (starEach (e::es) X.env)) (backToKw cpos (keywordEach [] X.env))) (λv s'=>DSP X pins H₀ H Dn (Flow.ret v) s')
   (λer s1=>wpAny (model X.prog X.w) X.A (noteFrame er X.env) (λ_ s2=>wpAny (model X.prog X.w) X.A (setFlight er none) (λ_ s3=>wpAny (model X.prog X.w) X.A (handleBy er X.env [.ExceptHandler (some (.Name kn kp0)) (some n) [.Return (some (.Call (.Name g gp) [.Name n np] [] gpos)) rpos2] hpos]) (DSP X pins H₀ H Dn) X.xe s3) X.xe s2) X.xe s1) s:=by
 refine PySem.W.callWith_K (h₀:=X.base) I.ok.mod.kin kp (wpAny_mono (ha.run cpos pins s σ H H₀ σD _ I ok q) (λus s1 ⟨vs,H1,ws,I1,r,s01,rp,q1⟩=>⟨I1.kIn,?_⟩) (λ_ _ z=>by rw[hnox]at z;exact False.elim z)) he hpl;have hlen:us.length=ps.length:=by
  rw[<-r.length];exact F.len vs H1 (λ_ _=>True) (λ_ _ _=>True) ⟨ws,_,_,rp,q1,λ_ _ _ _ _ _=>trivial,λ_ _ _ _=>trivial⟩
 have bb:BindsTo s1 fd ⟨us,[]⟩ (ps.zip us):=by
  have:=b s1 us I1.kIn (by rw[List.append_nil];exact hlen);rw[List.append_nil]at this;exact this
 refine wpAny_call (codeAny_mono (F.run X.A X.stack s1 H1 ⟨us,[]⟩ us vs (λv H'=>∃r,Same H1 H'/\zag X.K H1 H' r v/\Dn.rt r) (XE X.K H1 λx=>x.1∈L/\spg [.exc x] λr=>Dn.rt r) (hr.mono hk) I1.env0 bb r
  ⟨ws,_,_,rp,q1,λv H' r sm rr qq=>⟨r,sm,rr,qq⟩,λ_ _ _ z=>z⟩) λres s' hq=>?_)
 have back:∀{H':Hp}{r:Ret}{v:V},Same H1 H'->zag X.K H1 H' r v->zag X.K H₀ H' r v:=λ{H' r v} sm rr=>by
  cases r with
  |val d=>exact rr
  |new xs=>obtain⟨a,vs,e1,nn,e2,r⟩:=rr;exact⟨a,vs,e1,(ok.same.trans s01).free nn,e2,r⟩
 cases res with
 |error er=>
  refine zrp (i:=i) I1 hX hF hq hgk hm hdk hN hi hl λD od H' hE=>?_;obtain⟨x,D',eD,hns,sm,fx,hxL,hsp⟩:=hE
  cases eD;refine⟨hL x.1 hxL D hns,λa fr s2 J=>?_⟩;have sm2:Same H' (upd H' a (za4 D od a)):=zy fr _;have hiσ:i<σ.length:=by rw[I.len];exact(List.getElem?_eq_some_iff.mp hi).1
  have body:=zd2 (X:=X.held (.ref a)) (zbz (pos:=rpos2) (zme (X:=X.held (.ref a)) (p:=gp) (pos:=gpos) G (hr.r0.mark _) hgg (yo (x5 (X:=X.held (.ref a)) (i:=i) (pos:=np) hi (.inl hl) hdn hcn) xp) hkg hdg rfl rfl));refine wpAny_mono (body pins s2 _ _ { nx:=λ_ _=>False,rt:=λv H3=>∃r,Same (upd H' a (za4 D od a)) H3/\zag X.K (upd H' a (za4 D od a)) H3 r v/\Dn.rt r } J ?_) (λfl s3 z=>?_) λ_ _ z=>z
  ·refine⟨.ref a,List.getElem?_set_self hiσ,[.exc x],_,.cons ⟨a,D,od,rfl,hns,zm,?_⟩ .nil,hsp,λv H3 r sm3 rr qq=>⟨r,sm3,rr,qq⟩⟩;rcases fx with fx |⟨d,ed,fx⟩
   ·exact .inl fx
   ·exact .inr ⟨d,ed,sm2 _ _ fx⟩
  ·cases fl with
   |next=>obtain⟨_,_,_,z⟩:=z;exact z.elim
   |brk=>obtain⟨_,_,_,z⟩:=z;exact False.elim z
   |cont=>obtain⟨_,_,_,z⟩:=z;exact False.elim z
   |ret u=>
    obtain⟨v,σ3,H3,J3,rv,r,sm3,rr,qq⟩:=z;refine⟨σ3,H3,J3.unheld I.ok,λs4 J4=>⟨v,_,H3,r,J4,rv,ok.same.trans (s01.trans (sm.trans (sm2.trans sm3))),?_,qq⟩⟩
    cases r with
    |val d=>exact rr
    |new xs=>obtain⟨b',vs',e1,nn,e2,r⟩:=rr;exact⟨b',vs',e1,(ok.same.trans (s01.trans (sm.trans sm2))).free nn,e2,r⟩
 |ok fl=>
  cases fl with
  |ret u=>
   obtain⟨v,H',J,rv,r,sm,rr,qq⟩:=I1.after hq;exact⟨v,σ,H',r,J,rv,ok.same.trans (s01.trans sm),back sm rr,qq⟩
  |next=>exact False.elim hq
  |brk=>exact False.elim hq
  |cont=>exact False.elim hq
end
section
variable {X:Cx}{tg:Expr}{a b c:Expr}{p p2 pos pos2:Pos}{t:DTF}
section
variable {prog:Program}{w:World}{A:Around}{E:Value->Shared->Prop}{s:Shared}
end
end
section
open PySem.Builtin PySem.Builtin.Str
end
section
variable {X:Cx}{e:Expr}{es:List Expr}{pos:Pos}
structure DEk(X:Cx)(e:Expr)(t:DTE):Prop where
 run:∀(pins:List (Addr×Obj)) (s:Shared) (σ:St) (H H₀:Hp) (σD:DSt) (Q:D->Prop),1<=s.toks->Inv X pins σ H s->DOk X.K H₀ H σD σ->t σD Q->wpAny (model X.prog X.w) X.A (eval e X.env) (DEnd X pins σ H Q) X.xe s
structure DVk(X:Cx)(e:Expr)(t:DTE):Prop where
 run:∀(pins:List (Addr×Obj)) (s:Shared) (σ:St) (H H₀:Hp) (σD:DSt) (Q:D->Prop),1<=s.toks->Inv X pins σ H s->DOk X.K H₀ H σD σ->t σD Q->wpAny (model X.prog X.w) X.A (eval e X.env) (zo9 X pins σ H Q) X.xe s
structure DFk(X:Cx)(e:Expr)(t:DTF):Prop where
 run:∀(pins:List (Addr×Obj)) (s:Shared) (σ:St) (H H₀:Hp) (σD:DSt) (Q:List D->Prop),1<=s.toks->Inv X pins σ H s->DOk X.K H₀ H σD σ->t σD Q->wpAny (model X.prog X.w) X.A (eval e X.env) (zdh X pins σ H Q) X.xe s
structure DAk(X:Cx)(es:List Expr)(t:DTF):Prop where
 run:∀(pos:Pos) (pins:List (Addr×Obj)) (s:Shared) (σ:St) (H H₀:Hp) (σD:DSt) (Q:List D->Prop),1<=s.toks->Inv X pins σ H s->DOk X.K H₀ H σD σ->t σD Q ->
  wpAny (model X.prog X.w) X.A (spliced (backTo pos (starEach es X.env))) (λus s'=>∃vs H' ds,Inv X pins σ H' s'/\Vals vs us/\Same H H'/\Reps X.K H' ds vs/\Q ds) X.xe s
structure DSk(X:Cx)(st:Stmt)(t:DTS):Prop where
 run:∀(pins:List (Addr×Obj)) (s:Shared) (σ:St) (H H₀:Hp) (σD:DSt) (Dn:x4),1<=s.toks->Inv X pins σ H s->DOk X.K H₀ H σD σ->t Dn σD->wpAny (model X.prog X.w) X.A (exec st X.env) (DSP X pins H₀ H Dn) X.xe s
structure zuf(X:Cx)(st:List Stmt)(t:DTS):Prop where
 run:∀(pins:List (Addr×Obj)) (s:Shared) (σ:St) (H H₀:Hp) (σD:DSt) (Dn:x4),1<=s.toks->Inv X pins σ H s->DOk X.K H₀ H σD σ->t Dn σD->wpAny (model X.prog X.w) X.A (execs st X.env) (DSP X pins H₀ H Dn) X.xe s
theorem DS.k{st:Stmt}{t:DTS}(h:DS X st t):DSk X st t:=⟨λpins s σ H H₀ σD Dn _ I ok q=>h.run pins s σ H H₀ σD Dn I ok q⟩
theorem DSs.k{st:List Stmt}{t:DTS}(h:DSs X st t):zuf X st t:=⟨λpins s σ H H₀ σD Dn _ I ok q=>h.run pins s σ H H₀ σD Dn I ok q⟩
end
section
variable {X:Cx}{pins:List (Addr×Obj)}{σ:St}{H:Hp}{s:Shared}{P c:Addr}{q:Str}
end
section
variable {X:Cx}{pins:List (Addr×Obj)}{σ:St}{H:Hp}{a it S f:Addr}{xs:List V}{kf:Nat->Int}{kwd:List (Str×Value)}{R:Value->Shared->Prop}
structure zur(X:Cx)(pins:List (Addr×Obj))(σ:St)(H:Hp)(a it S:Addr)(xs:List V)(kf:Nat->Int)(j i:Nat)(H1:Hp)(s:Shared):Prop where
 I:Inv X pins σ H1 s
 sm:Same H H1
 st:s.heap.IsListIter it a j
 f1:FpOk X pins H1 it
 f2:FpOk X pins H1 S
 ne:it≠S
 best:∃vb tb c x,s.heap.get? S=some (seqObj "list" #[vb,.int (kf i) tb] c)/\xs[i]?=some x/\RelV x vb
 lt:i<j
 mx:∀j',j' < j->kf i<=kf j'/\(j' < i->kf i<kf j')
end
section
variable {X:Cx}{pins:List (Addr×Obj)}{σ:St}{H:Hp}{a f:Addr}{xs:List V}{kf:Nat->Int}{R:Value->Shared->Prop}{s:Shared}
end
structure zs9(y n:Str)(sc:Scope):Prop where
 kind:sc.kind=.function
 co:sc.isCoroutine=false
 gen:sc.isGenerator=false
 ne:y≠n
 loc:sc.names.lookup y=some .local
 fre:sc.names.lookup n=some .free
 only:∀x∈sc.names,x.2 ≠ .cell/\(x.2=.free->x.1=n)
section
variable {X:Cx}{a body:Expr}{ta:DTF}{tb:DTE}{p pos kp kp2 lp cp:Pos}{k:Nat}{P c:Addr}{q y n:Str}{params:Arguments}{scope:Scope}
end
end L2
namespace SQ
open PySem PyProof.Rows
set_option autoImplicit false
abbrev ipK(p:Int×Str):List Int:=p.1::p.2.cps.toList.map λn:Nat=>(n:Int)
def RefP(h:Heap)(v:Value)(p:Int×Str):Prop:=∃a t u,v=.ref a/\IsTup h a #[.int p.1 t,.str p.2 u]
theorem RefP.keep{h h':Heap}{v:Value}{p:Int×Str}(k:∀b o,h.get? b=some o->h'.get? b=some o)(x:RefP h v p):RefP h' v p:=by
 obtain⟨a,t,u,e,i⟩:=x;exact⟨a,t,u,e,i.keeps k⟩
noncomputable def zoy (h:Heap) (v:Value):Option (List Int):=@dite _ (∃p,RefP h v p) (Classical.propDecidable _) (λx=>some (ipK x.choose)) (λ_=>none)
@[reducible] noncomputable def zul (h:Heap):KeyKind where
 α:=List Int
 blt a b:=decide (a<b)
 irrefl a:=by simpa using List.lt_irrefl a
 trans a b c h1 h2:=by simp only[decide_eq_true_eq]at *;exact List.lt_trans h1 h2
 negTrans a b c h:=by
  simp only[decide_eq_true_eq]at *
  by_cases c:a<b
  ·exact .inl c
  ·exact .inr (List.lt_of_le_of_lt (List.not_lt.mp c) h)
 total a b h1 h2:=by simp only[decide_eq_false_iff_not]at *;exact List.le_antisymm (List.not_lt.mp h2) (List.not_lt.mp h1)
 keyOf v:=zoy h v
 dflt:=[]
section
variable {prog:Program}{w:World}{A:Around}{E:Value->Shared->Prop}{s:Shared}
end
end SQ
namespace L2
open PySem PySem.Spec PyProof.Rows SQ
section
variable {X:Cx}
end
end L2
namespace L2
open PySem PySem.Spec PyProof.Rows
section
variable {X:Cx}{o:Expr}{td:TE}{p pos:Pos}
end
section
variable {X:Cx}
end
section
variable {X:Cx}
def zex(L:List Str)(j:Nat)(sp0 sp1 sp2 sp3:zbp)(spg:DSp)(t:DTP):DTS:=λDn σ=>match σ[j]? with
 |some (some (.val (.int w)))=>(w=0/\t σ λws=>sp0 ws (λr=>Dn.rt r) λx=>x.1∈L/\spg [.exc x] λr=>Dn.rt r)\/(w=1/\t σ λws=>sp1 ws (λr=>Dn.rt r) λx=>x.1∈L/\spg [.exc x] λr=>Dn.rt r)\/(w=2/\t σ λws=>sp2 ws (λr=>Dn.rt r) λx=>x.1∈L/\spg [.exc x] λr=>Dn.rt r)\/(w=3/\t σ λws=>sp3 ws (λr=>Dn.rt r) λx=>x.1∈L/\spg [.exc x] λr=>Dn.rt r)
 |_=>False
theorem zcp{L:List Str}{CK:Addr}{k0 k1 k2 k3 kg k' i j:Nat}{x0 x1 x2 x3 g n kn y:Str}{ps0 ps1 ps2 ps3 pg:List Str}{sp0 sp1 sp2 sp3:zbp}{spg:DSp}{t:DTP}{e:Expr}{es:List Expr}{p0 p1 p2 p3 lp yp sp' kp0 hpos gp np gpos rpos rpos2 cpos pos:Pos}
  (C0:xl X.prog X.w X.K X.mg X.base k0 x0 ps0 (xu X.K sp0)) (C1:xl X.prog X.w X.K X.mg X.base k1 x1 ps1 (xu X.K sp1)) (C2:xl X.prog X.w X.K X.mg X.base k2 x2 ps2 (xu X.K sp2)) (C3:xl X.prog X.w X.K X.mg X.base k3 x3 ps3 (xu X.K sp3)) (G:zap X.prog X.w X.K X.mg X.base kg g pg (y0 X.K spg)) (hr:Room k' X.A) (hm:X.mg kn=some (.ref CK)) (hL:∀y∈L,∀D,PySem.W.nsIn X.K mainGlobals y=some (some (.ref D))->zoj X.K CK D)
  (hN:X.N.Nodup) (hi:X.N[i]?=some n) (hl:X.env.scope.names.lookup n=some .local) (hj:X.N[j]?=some y) (hg0:Gl X x0) (hg1:Gl X x1) (hg2:Gl X x2) (hg3:Gl X x3) (hgg:Gl X g) (hgk:Gl X kn) (hX:X.stack=X.env::X.outer) (hF:X.env.frame=some X.env.locals) (ha:DPs X (e::es) t)
  (hk0:k0<=k':=by decide) (hk1:k1<=k':=by decide) (hk2:k2<=k':=by decide) (hk3:k3<=k':=by decide) (hkg:kg<=k':=by decide) (hd0:(x0 ==("__debug__" : Str))=false:=by decide) (hd1:(x1 ==("__debug__" : Str))=false:=by decide) (hd2:(x2 ==("__debug__" : Str))=false:=by decide) (hd3:(x3 ==("__debug__" : Str))=false:=by decide) (hdg:(g ==("__debug__" : Str))=false:=by decide) (hdk:(kn ==("__debug__" : Str))=false:=by decide)
  (hdn:(n ==("__debug__" : Str))=false:=by decide) (hcn:(n ==("__classdict__" : Str))=false:=by decide) (hv:Vis X.env.scope y:=by first|exact Or.inl rfl|exact Or.inr (Or.inl rfl)|exact Or.inr (Or.inr rfl)) (hdy:(y ==("__debug__" : Str))=false:=by decide) (hcy:(y ==("__classdict__" : Str))=false:=by decide)
  (he:starEach (e::es) X.env=(false,eval e X.env)::starEach es X.env:=by rfl) (hpl:(backTo cpos (starEach es X.env)).any (·.1)=false:=by rfl) (hnox:X.xe=λ_ _=>False:=by rfl) :
  DS X (.Try [.Return (some (.Call (.Subscript (.List [.Name x0 p0,.Name x1 p1,.Name x2 p2,.Name x3 p3] lp) (.Name y yp) sp') (e::es) [] cpos)) rpos] [.ExceptHandler (some (.Name kn kp0)) (some n) [.Return (some (.Call (.Name g gp) [.Name n np] [] gpos)) rpos2] hpos] [] [] pos) (zex L j sp0 sp1 sp2 sp3 spg t):=⟨λpins s σ H H₀ σD Dn I ok q=>by
 obtain⟨f0,fd0,F0,b0,kp0',m0⟩:=C0;obtain⟨f1,fd1,F1,b1,kp1',m1⟩:=C1;obtain⟨f2,fd2,F2,b2,kp2',m2⟩:=C2;obtain⟨f3,fd3,F3,b3,kp3',m3⟩:=C3;unfold zex at q
 split at q
 ·next w ew=>
  obtain⟨vw,e1,rw'⟩:=ok.val ew
  cases rw';refine wpAny_Try_except (wpAny_execs_cons (wpAny_Return_some ?_));show wpAny _ _ (eval (.Subscript (.List [.Name x0 p0,.Name x1 p1,.Name x2 p2,.Name x3 p3] lp) (.Name y yp) sp') X.env >>= _) _ _ s;have P:PE X (.Subscript (.List [.Name x0 p0,.Name x1 p1,.Name x2 p2,.Name x3 p3] lp) (.Name y yp) sp') _:=zaa ix_list (zk4 (yo (yv (v:=.ref f0) hg0 m0 rfl hd0) (yo (yv (v:=.ref f1) hg1 m1 rfl hd1) (yo (yv (v:=.ref f2) hg2 m2 rfl hd2) (yo (yv (v:=.ref f3) hg3 m3 rfl hd3) xp rfl) rfl) rfl) rfl)) (x5 (i:=j) hj hv hdy hcy) (λ_ _=>rfl);have fin:∀{k f fd ps sp} (F:FnOk X.prog X.w X.K X.mg X.base (CXk X.prog X.w) k f fd ps (xu X.K sp)) (b:Binds X.K fd ps []) (kp:PySem.W.keepIn X.K (.ref f)=true) (hk:k<=k') (q:t σD λws=>sp ws (λr=>Dn.rt r) λx=>x.1∈L/\spg [.exc x] λr=>Dn.rt r) (s1:Shared) (H1:Hp),Inv X pins σ H1 s1->Same H H1 ->
    wpAny (model X.prog X.w) X.A (callWith cpos (.ref f) [] (backTo cpos (starEach (e::es) X.env)) (backToKw cpos (keywordEach [] X.env))) (λv s'=>DSP X pins H₀ H Dn (Flow.ret v) s')
     (λer s1=>wpAny (model X.prog X.w) X.A (noteFrame er X.env) (λ_ s2=>wpAny (model X.prog X.w) X.A (setFlight er none) (λ_ s3=>wpAny (model X.prog X.w) X.A (handleBy er X.env [.ExceptHandler (some (.Name kn kp0)) (some n) [.Return (some (.Call (.Name g gp) [.Name n np] [] gpos)) rpos2] hpos]) (DSP X pins H₀ H Dn) X.xe s3) X.xe s2) X.xe s1) s1:=λF b kp hk q s1 H1 I1 sm=>by
   refine wpAny_mono (zmv (i:=i) (kp0:=kp0) (hpos:=hpos) (gp:=gp) (np:=np) (gpos:=gpos) (rpos2:=rpos2) F b kp G hr hm hL hN hi hl hgg hgk hX hF ha hk hkg hdg hdk hdn hcn he hpl hnox I1 (ok.after sm) q) (λv s' z=>z.back sm.pers) λer s' z=>?_;refine wpAny_mono z (λ_ s2 z=>wpAny_mono z (λ_ s3 z=>wpAny_mono z (λfl s4 z=>z.back sm.pers) λ_ _ z=>z) λ_ _ z=>z) λ_ _ z=>z
  have go:∀(f:Addr),atI [V.ref f0,V.ref f1,V.ref f2,V.ref f3] w=some (V.ref f)->wpAny (model X.prog X.w) X.A (eval (.Subscript (.List [.Name x0 p0,.Name x1 p1,.Name x2 p2,.Name x3 p3] lp) (.Name y yp) sp') X.env) (λu s1=>u=.ref f/\∃H1,Inv X pins σ H1 s1/\Same H H1) (λ_ _=>False) s:=λf ha=>by
   refine wpAny_mono (P pins s σ H (λv H'=>v=.ref f/\Same H H') I ?_) (λu s1 ⟨v,H1,I1,r1,e2,sm⟩=>?_) (λ_ _ z=>by rw[hnox]at z;exact z.elim)
   ·exact⟨by simp[sizeLine_eq],λp hp=>⟨_,e1,p,_,w,_,rfl,rfl,SqL.of zm,ha,rfl,zy hp _⟩⟩
   ·subst e2;exact⟨r1,H1,I1,sm⟩
  rcases q with⟨rfl,q⟩ |⟨rfl,q⟩ |⟨rfl,q⟩ |⟨rfl,q⟩
  ·refine wpAny_bind (wpAny_mono (go f0 rfl) (λu s1 ⟨eu,H1,I1,sm⟩=>?_) λ_ _ z=>z.elim);subst eu;exact fin F0 b0 kp0' hk0 q s1 H1 I1 sm
  ·refine wpAny_bind (wpAny_mono (go f1 rfl) (λu s1 ⟨eu,H1,I1,sm⟩=>?_) λ_ _ z=>z.elim);subst eu;exact fin F1 b1 kp1' hk1 q s1 H1 I1 sm
  ·refine wpAny_bind (wpAny_mono (go f2 rfl) (λu s1 ⟨eu,H1,I1,sm⟩=>?_) λ_ _ z=>z.elim);subst eu;exact fin F2 b2 kp2' hk2 q s1 H1 I1 sm
  ·refine wpAny_bind (wpAny_mono (go f3 rfl) (λu s1 ⟨eu,H1,I1,sm⟩=>?_) λ_ _ z=>z.elim);subst eu;exact fin F3 b3 kp3' hk3 q s1 H1 I1 sm
 ·exact q.elim⟩
end
section
variable {P:Program}{w:World}{K:PySem.W.Frag}{mg:Str->Option Value}{base:Heap}{N:List Str}{qual:Str}{scope:Scope}{f:Addr}{cd:Value}{A:Around}{outer:List Env}{s:Shared}{H:Hp}{E:XK}
def zmw(ex:EX)(sp:zbp)(t:DTP):DTS:=λDn σ=>t σ λws=>sp ws (λr=>Dn.rt r) ex
theorem zcq{ex:EX}{k k':Nat}{x:Str}{ps:List Str}{sp:zbp}{t:DTP}{e:Expr}{es:List Expr}{np cpos pos:Pos}(hE:∀c od H',XE K H ex c od H'->E c od H')(C:xl P w K mg base k x ps (xu K sp))(hr:Room k' (A.deeper (envOfC qual scope s.heap.objs.size f cd)))
  (hg:Gl (xn (CXk P w) P w K mg base N qual scope f cd A outer s H E) x) (ha:DPs (xn (CXk P w) P w K mg base N qual scope f cd A outer s H E).nox (e::es) t) (hk:k<=k':=by decide) (hdb:(x ==("__debug__" : Str))=false:=by decide)
  (he:starEach (e::es) (envOfC qual scope s.heap.objs.size f cd)=(false,eval e (envOfC qual scope s.heap.objs.size f cd))::starEach es (envOfC qual scope s.heap.objs.size f cd):=by rfl)
  (hpl:(backTo cpos (starEach es (envOfC qual scope s.heap.objs.size f cd))).any (·.1)=false:=by rfl) :
  DSX (xn (CXk P w) P w K mg base N qual scope f cd A outer s H E) (.Return (some (.Call (.Name x np) (e::es) [] cpos)) pos) (zmw ex sp t):=⟨λpins s1 σ H1 σD Dn I ok q=>by
 obtain⟨f0,fd0,F,b,kp,m⟩:=C;refine wpAny_Return_some ?_;show wpAny _ _ (eval (.Name x np) (envOfC qual scope s.heap.objs.size f cd) >>= _) _ _ s1;refine wpAny_bind (v0 I hg m ?_ hdb);refine PySem.W.callWith_K (h₀:=base) I.ok.mod.kin kp (wpAny_mono (ha.run cpos pins s1 σ H1 H σD _ (I.wish _) ok q) (λus s2 ⟨vs,H2,ws,I2,r,s01,rp,q1⟩=>⟨I2.kIn,?_⟩) (λ_ _ z=>False.elim z)) he hpl;have hlen:us.length=ps.length:=by
  rw[<-r.length];exact F.len vs H2 (λ_ _=>True) (λ_ _ _=>True) ⟨ws,_,_,rp,q1,λ_ _ _ _ _ _=>trivial,λ_ _ _ _=>trivial⟩
 have bb:BindsTo s2 fd0 ⟨us,[]⟩ (ps.zip us):=by
  have:=b s2 us I2.kIn (by rw[List.append_nil];exact hlen);rw[List.append_nil]at this;exact this
 refine wpAny_call (codeAny_mono (F.run _ _ s2 H2 ⟨us,[]⟩ us vs (λv H'=>∃r,Same H2 H'/\zag K H2 H' r v/\Dn.rt r) (XE K H2 ex) (hr.mono hk) I2.env0 bb r
  ⟨ws,_,_,rp,q1,λv H' r sm rr qq=>⟨r,sm,rr,qq⟩,λ_ _ _ z=>z⟩) λres s' hq=>?_)
 have I3:=I2.unwish
 cases res with
 |error er=>
  obtain⟨a,C,od,H',rfl,os,bare,un,hok,new,fr,fly,hE'⟩:=hq;have J:=I3.call' os un hok bare (λb hb=>nomatch hb);obtain⟨y,D,eD,hns,sm,fx,hy⟩:=hE';refine zmd J (.inl fly) ?_ fr (hE _ _ _ ⟨y,D,eD,hns,ok.same.trans (s01.trans sm),fx,hy⟩)
  cases z:s.heap.get? a with
  |none=>rfl
  |some o=>
   obtain⟨o',e'⟩:=I3.base.there a o z (by intro y;cases y);rw[new]at e'
   cases e'
 |ok fl=>
  cases fl with
  |ret u=>
   obtain⟨v,H',J,rv,r,sm,rr,qq⟩:=I3.after hq;refine⟨v,σ,H',r,J,rv,ok.same.trans (s01.trans sm),?_,qq⟩
   cases r with
   |val d=>exact rr
   |new xs=>obtain⟨a,vs,e1,nn,e2,r⟩:=rr;exact⟨a,vs,e1,(ok.same.trans s01).free nn,e2,r⟩
  |next=>exact False.elim hq
  |brk=>exact False.elim hq
  |cont=>exact False.elim hq⟩
end
end L2
namespace L2
open PySem PySem.Spec PyProof.Rows SQ
section
variable {X:Cx}{a:Expr}{p pos p2 pos2:Pos}
end
end L2
namespace My
open PySem L2 PyProof.Rows
def top(i:Nat):Stmt:=PySem.Challenge.pw_knockpurse_k14_stories_put_together.main.body.getD i (.Pass ⟨0,0,0,0⟩)
abbrev kq:Stmt:=top 12
theorem zey:yf ["story"] ["story"] (ze kq):=⟨rfl,rfl,rfl,by decide +kernel,rfl,by decide +kernel,by decide +kernel⟩
abbrev zbg:Stmt:=top 13
theorem zhu:yf ["stretches"] ["stretches"] (ze zbg):=⟨rfl,rfl,rfl,by decide +kernel,rfl,by decide +kernel,by decide +kernel⟩
abbrev zcr:Stmt:=top 14
theorem sc_either:yf ["one", "other", "stretches", "first", "last"] ["one", "other"] (ze zcr):=⟨rfl,rfl,rfl,by decide +kernel,rfl,by decide +kernel,by decide +kernel⟩
abbrev zhv:Stmt:=top 15
theorem sc_both:yf ["one", "other", "shared"] ["one", "other"] (ze zhv):=⟨rfl,rfl,rfl,by decide +kernel,rfl,by decide +kernel,by decide +kernel⟩
abbrev kr:Stmt:=top 16
theorem sc_other_way:yf ["story", "beat", "stretches", "sound_from", "first", "last"] ["story", "beat"] (ze kr):=⟨rfl,rfl,rfl,by decide +kernel,rfl,by decide +kernel,by decide +kernel⟩
abbrev j6:Stmt:=top 17
theorem sc_later_by:yf ["story", "by", "moved"] ["story", "by"] (ze j6):=⟨rfl,rfl,rfl,by decide +kernel,rfl,by decide +kernel,by decide +kernel⟩
abbrev vc:Stmt:=top 19
theorem zbr:yf ["_law_script", "_law_k"] ["_law_script", "_law_k"] (ze vc):=⟨rfl,rfl,rfl,by decide +kernel,rfl,by decide +kernel,by decide +kernel⟩
abbrev ku:Stmt:=top 20
theorem sc__law_next:yf ["_law_seed"] ["_law_seed"] (ze ku):=⟨rfl,rfl,rfl,by decide +kernel,rfl,by decide +kernel,by decide +kernel⟩
abbrev vk:Stmt:=top 21
theorem sc__law_pen_of:yf ["_law_cell", "_law_left"] ["_law_cell"] (ze vk):=⟨rfl,rfl,rfl,by decide +kernel,rfl,by decide +kernel,by decide +kernel⟩
abbrev kx:Stmt:=top 22
theorem sc__law_draw:yf ["_law_pen", "_law_many", "_law_found"] ["_law_pen", "_law_many"] (ze kx):=⟨rfl,rfl,rfl,by decide +kernel,rfl,by decide +kernel,by decide +kernel⟩
abbrev qh:Stmt:=top 23
theorem sc__law_story:yf ["_law_pen", "_law_many", "_law_wide", "_law_here", "_law_found", "_law_turn", "_law_begin"] ["_law_pen"] (ze qh):=⟨rfl,rfl,rfl,by decide +kernel,rfl,by decide +kernel,by decide +kernel⟩
abbrev ve:Stmt:=top 24
theorem sc__law_refusal:yf ["_law_e", "_law_marks", "_law_word"] ["_law_e"] (ze ve):=⟨rfl,rfl,rfl,by decide +kernel,rfl,by decide +kernel,by decide +kernel⟩
abbrev wa:Stmt:=top 25
theorem zat:yf ["_law_story_here", "_law_beat"] ["_law_story_here", "_law_beat"] (ze wa):=⟨rfl,rfl,rfl,by decide +kernel,rfl,by decide +kernel,by decide +kernel⟩
abbrev wn:Stmt:=top 26
theorem sc__law_by_edges:yf ["_law_one", "_law_other", "_law_way", "_law_most", "_law_edges", "_law_begin", "_law_end", "_law_found", "_law_first", "_law_last", "_law_marks"] ["_law_one", "_law_other", "_law_way", "_law_most"] (ze wn):=⟨rfl,rfl,rfl,by decide +kernel,rfl,by decide +kernel,by decide +kernel⟩
abbrev k6:Stmt:=top 27
theorem sc__law_told:yf ["_law_way", "_law_one", "_law_other", "_law_e"] ["_law_way", "_law_one", "_law_other"] (ze k6):=⟨rfl,rfl,rfl,by decide +kernel,rfl,by decide +kernel,by decide +kernel⟩
abbrev qi:Stmt:=top 28
theorem sc__law_later:yf ["_law_story_here", "_law_by", "_law_found", "_law_begin", "_law_end"] ["_law_story_here", "_law_by"] (ze qi):=⟨rfl,rfl,rfl,by decide +kernel,rfl,by decide +kernel,by decide +kernel⟩
abbrev qj:Stmt:=top 29
theorem sc__law_moved:yf ["_law_pen", "_law_story_here", "_law_found", "_law_begin", "_law_end"] ["_law_pen", "_law_story_here"] (ze qj):=⟨rfl,rfl,rfl,by decide +kernel,rfl,by decide +kernel,by decide +kernel⟩
abbrev qk:Stmt:=top 30
theorem sc__law_combs:yf ["_law_pen", "_law_many", "_law_first", "_law_left", "_law_one", "_law_other"] ["_law_pen"] (ze qk):=⟨rfl,rfl,rfl,by decide +kernel,rfl,by decide +kernel,by decide +kernel⟩
abbrev ql:Stmt:=top 31
theorem sc__law_teeth:yf ["_law_pen", "_law_many", "_law_first", "_law_fewer", "_law_one", "_law_other"] ["_law_pen"] (ze ql):=⟨rfl,rfl,rfl,by decide +kernel,rfl,by decide +kernel,by decide +kernel⟩
abbrev zmx:Stmt:=top 32
theorem sc_law:yf ["_law_script", "_law_cell", "_law_pen", "_law_one", "_law_way", "_law_by", "_law_other", "_law_mine", "_law_yours", "_law_mode", "_law_most", "_law_beat", "_law_number"] ["_law_script"] (ze zmx):=⟨rfl,rfl,rfl,by decide +kernel,rfl,by decide +kernel,by decide +kernel⟩
abbrev wj:Stmt:=top 8
theorem zez:yf ["self", "many", "most"] ["self", "many", "most"] (ze (zab wj 0)):=⟨rfl,rfl,rfl,by decide +kernel,rfl,by decide +kernel,by decide +kernel⟩
structure Blt(mg:Str->Option Value):Prop where
 len:mg "len" = none
 range:mg "range" = none
 min:mg "min" = none
 max:mg "max" = none
 repr:mg "repr" = none
 isinstance:mg "isinstance" = none
 zip:mg "zip" = none
 sorted:mg "sorted" = none
 tupleT:mg "tuple" = none
 intT:mg "int" = none
 setT:mg "set" = none
 ValueError:mg "ValueError" = none
 LookupError:mg "LookupError" = none
 TypeError:mg "TypeError" = none
 ArithmeticError:mg "ArithmeticError" = none
 RuntimeError:mg "RuntimeError" = none
structure Xf(K:PySem.W.Frag)(mg:Str->Option Value):Prop where
 r_NoBeat:∃C,mg "NoBeat" = some (.ref C)/\PySem.W.nsIn K mainGlobals "NoBeat" = some (some (.ref C))/\PySem.W.excIn K C [.type "ValueError",.type "Exception",.type "BaseException",.type "object"] "ValueError.__new__" = true
 kn:∃CK,mg "KnockError" = some (.ref CK)/\∀y∈(["TooGreat", "NoBeat"]:List Str),∀D,PySem.W.nsIn K mainGlobals y=some (some (.ref D))->zoj K CK D
 f_many:zmt K "many" ["TooGreat"]
 f_most:zmt K "most" ["TooGreat"]
 i_NoBeat:∃D,mg "NoBeat" = some (.ref D)/\∀nm b,va (["TooGreat", "NoBeat"]:List Str) "NoBeat" nm=some b->∀C,PySem.W.nsIn K mainGlobals nm=some (some (.ref C))->XIs K C/\PySem.W.kitOne K (.ref C) (.ref D)=some b
 i_NoStep:∃D,mg "NoStep" = some (.ref D)/\∀nm b,va (["TooGreat", "NoBeat"]:List Str) "NoStep" nm=some b->∀C,PySem.W.nsIn K mainGlobals nm=some (some (.ref C))->XIs K C/\PySem.W.kitOne K (.ref C) (.ref D)=some b
 i_NoNumber:∃D,mg "NoNumber" = some (.ref D)/\∀nm b,va (["TooGreat", "NoBeat"]:List Str) "NoNumber" nm=some b->∀C,PySem.W.nsIn K mainGlobals nm=some (some (.ref C))->XIs K C/\PySem.W.kitOne K (.ref C) (.ref D)=some b
 i_NoLine:∃D,mg "NoLine" = some (.ref D)/\∀nm b,va (["TooGreat", "NoBeat"]:List Str) "NoLine" nm=some b->∀C,PySem.W.nsIn K mainGlobals nm=some (some (.ref C))->XIs K C/\PySem.W.kitOne K (.ref C) (.ref D)=some b
 i_NoStory:∃D,mg "NoStory" = some (.ref D)/\∀nm b,va (["TooGreat", "NoBeat"]:List Str) "NoStory" nm=some b->∀C,PySem.W.nsIn K mainGlobals nm=some (some (.ref C))->XIs K C/\PySem.W.kitOne K (.ref C) (.ref D)=some b
 i_NoText:∃D,mg "NoText" = some (.ref D)/\∀nm b,va (["TooGreat", "NoBeat"]:List Str) "NoText" nm=some b->∀C,PySem.W.nsIn K mainGlobals nm=some (some (.ref C))->XIs K C/\PySem.W.kitOne K (.ref C) (.ref D)=some b
 i_TooGreat:∃D,mg "TooGreat" = some (.ref D)/\∀nm b,va (["TooGreat", "NoBeat"]:List Str) "TooGreat" nm=some b->∀C,PySem.W.nsIn K mainGlobals nm=some (some (.ref C))->XIs K C/\PySem.W.kitOne K (.ref C) (.ref D)=some b
 b_ValueError:∀nm b,zf8 (["TooGreat", "NoBeat"]:List Str) true nm=some b->∀C,PySem.W.nsIn K mainGlobals nm=some (some (.ref C))->XIs K C/\PySem.W.kitOne K (.ref C) (.type "ValueError")=some b
 t_0:∀nm b,zf8 (["TooGreat", "NoBeat"]:List Str) false nm=some b->∀C,PySem.W.nsIn K mainGlobals nm=some (some (.ref C))->XIs K C/\PySem.W.kitAny K (.ref C) [.type "LookupError",.type "TypeError",.type "ArithmeticError",.type "RuntimeError"]=some b
def ww(K:PySem.W.Frag)(x:Str)(st:Stmt):Prop:=∃f fd,PySem.W.nsIn K mainGlobals x=some (some (.ref f))/\Fun K x x st f fd
theorem fn_at{K:PySem.W.Frag}{x:Str}{st:Stmt}{f:Addr}{od an:Option Addr}{sl:Array (Option Value)}{oc kV dc pm cd ct:Value}(a:PySem.W.nsIn K mainGlobals x=some (some (.ref f)))(l:K.lookup f=some ⟨oc,od,.func (PySem.W.fnOf x x (wc st) (xa st) (ze st) .none kV dc pm an cd ct),sl⟩)(c:PySem.W.codeIn K cd x=true)(k:PySem.W.keepIn K (.ref f)=true):ww K x st:=⟨f,_,a,zla l c k⟩
theorem zkr{K:PySem.W.Frag}{x:Str}{st:Stmt}{f:Addr}{fd:FuncData}{s:Shared}{v:Value}{ps:List (Str×Value)}(F:Fun K x x st f fd)(h:∀(kV doc pm:Value) (an:Option Addr) (cdv ct:Value),bindArgs (PySem.W.fnOf x x (wc st) (xa st) (ze st) .none kV doc pm an cdv ct) ⟨[v],[]⟩=pure ps):BindsTo s fd ⟨[v],[]⟩ ps:=by
 obtain⟨oc,od,kV,doc,pm,an,cdv,ct,osl,rfl,lk,hcd⟩:=F.ex;exact .of_eq (h kV doc pm an cdv ct)
abbrev Cal(P:Program)(w:World)(K:PySem.W.Frag)(mg:Str->Option Value)(base:Heap):=za2 P w K mg base
local macro_rules|`(tactic| walk_at "dr")=>`(tactic| dsimp only[↓zhj,↓zka,↓zet,↓zmf,↓zmg,↓zly,↓zif,↓zl0,↓zl1,↓zl2,↓zrb,↓zrc,↓zex,↓zmw,↓zi3,↓zew,↓dIf,↓zre,↓zra,↓zlz,↓zoa,↓zl3,↓znu,↓znv,↓zrg,↓dC,↓zfq,↓zlf,↓zlg,↓zlh,↓znw,↓zql,↓zqm,↓dFz,↓dTB,↓onB,↓zqn,↓dOr,↓zqo,↓zqp,↓zli,↓zqq,↓dOp,↓dUn,↓zqr,↓gII,↓zec,↓zqs,↓zqt,↓zqu,↓zqv,↓gEq,↓gNe,↓gIn,↓dCB,↓dCF,↓zqw,↓zqx,↓zqy,↓zqz,↓zg3,↓gIx,↓zlo,↓zee,↓dSl,↓zeg,↓zbu,↓zeh,↓zid,↓zei,↓zq6,↓zek,↓zie,↓zel,↓zlu,↓zih,↓dLC,↓zox,↓vg,↓zrv,↓lcF,↓zlv,↓zlw,↓zg4,↓Ret.d,↓jx,↓xc,↓zfr,↓clr,↓zqk,↓zg7,↓zhh,List.map_cons,List.map_nil,List.length_cons,List.length_nil,List.replicate_succ,List.replicate_zero,List.cons_append,List.nil_append,List.append_nil,List.set_cons_zero,List.set_cons_succ,List.getElem?_cons_zero,List.getElem?_cons_succ,Option.join_some,Nat.reduceAdd,Nat.reduceSub,Nat.zero_add,Bool.not_true,Bool.not_false])
local macro_rules|`(tactic| walk_at "ds")=>`(tactic| first|simp only[↓zhj,↓zka,↓zet,↓zmf,↓zmg,↓zly,↓zif,↓zl0,↓zl1,↓zl2,↓zrb,↓zrc,↓zex,↓zmw,↓zi3,↓zew,↓dIf,↓zre,↓zra,↓zlz,↓zoa,↓zl3,↓znu,↓znv,↓zrg,↓dC,↓zfq,↓zlf,↓zlg,↓zlh,↓znw,↓zql,↓zqm,↓dFz,↓dTB,↓onB,↓zqn,↓dOr,↓zqo,↓zqp,↓zli,↓zqq,↓dOp,↓dUn,↓zqr,↓gII,↓zec,↓zqs,↓zqt,↓zqu,↓zqv,↓gEq,↓gNe,↓gIn,↓dCB,↓dCF,↓zqw,↓zqx,↓zqy,↓zqz,↓zg3,↓gIx,↓zlo,↓zee,↓dSl,↓zeg,↓zbu,↓zeh,↓zid,↓zei,↓zq6,↓zek,↓zie,↓zel,↓zlu,↓zih,↓dLC,↓zox,↓vg,↓zrv,↓lcF,↓zlv,↓zlw,↓zg4,↓Ret.d,↓jx,↓xc,↓zfr,↓clr,↓zqk,↓zg7,↓zhh,List.map_cons,List.map_nil,List.length_cons,List.length_nil,List.replicate_succ,List.replicate_zero,List.cons_append,List.nil_append,List.append_nil,List.set_cons_zero,List.set_cons_succ,List.getElem?_cons_zero,List.getElem?_cons_succ,Option.join_some,Nat.reduceAdd,Nat.reduceSub,Nat.zero_add,Bool.not_true,Bool.not_false,if_true,if_false,reduceIte,decide_eq_true_eq,Bool.not_eq_true',decide_eq_false_iff_not,true_and,and_true,Bool.false_eq_true,Bool.not_eq_eq_eq_not,eq_self,and_self,List.isEmpty_nil,List.isEmpty_cons,reduceCtorEq,sizeLine_eq,Nat.reduceLeDiff,Nat.zero_le]|skip)
section
variable {P:Program}{w:World}{K:PySem.W.Frag}{mg:Str->Option Value}{base:Heap}{f:Addr}{fd:FuncData}
def qw:DSp:=λws Q=>∃(ns:List Int) (k:Int),ws = [.scr ns,.val (.int k)]/\0<=k/\∀v:Int,Q (.val (.int v))
theorem zbs(B:Blt mg)(F:Fun K "_law_cell_at" "_law_cell_at" vc f fd):FnOk P w K mg base CX0 1 f fd ["_law_script", "_law_k"] (y0 K qw):=by
 refine F.dok zbr (λws Q h=>?_) (λcdv A outer s H ws Q E hr h=>?_)
 ·obtain⟨ns,k,rfl,_⟩:=h;rfl
 obtain⟨ns,k,rfl,h0,q⟩:=h;refine⟨_,(zf (xr (yc zlm (zb 1) (DE.dv (zjv 0 rfl B.len)) (zx _)) (zj (yk (zlq 0 (zt 1) (λ_ _=>rfl)))) yx) (zj (yk zc))),?_⟩;walk_at "ds"
 split
 ·next c=>
  obtain⟨v,e,_⟩:=zle (xs:=ns) h0 c;exact⟨v,e,q v⟩
 ·exact q 0
def qm:DSp:=λws Q=>∃k:Int,ws = [.val (.int k)]/\∀v:Int,Q (.val (.int v))
theorem ze0(B:Blt mg)(F:Fun K "_law_next" "_law_next" ku f fd):FnOk P w K mg base CX0 1 f fd ["_law_seed"] (y0 K qm):=by
 refine F.dok sc__law_next (λws Q h=>?_) (λcdv A outer s H ws Q E hr h=>?_)
 ·obtain⟨k,rfl,_⟩:=h;rfl
 obtain⟨k,rfl,q⟩:=h;refine⟨_,(zf (yn (i:=0) sc__law_next.nd rfl (Or.inl rfl) (zq zlk (DE.dv (zq yh (zb 0) (DE.dv zc))) (DE.dv zc))) (zj (yk (zq zlk (DE.dv (zq yh (DE.dv (zq yh (DE.dv (zq ji (zb 0) (zb 0))) (DE.dv (zq ji (DE.dv zc) (zb 0))))) (DE.dv zc))) (DE.dv zc))))),?_⟩;walk_at "ds";have h1:0<=(k+7919) % 2147483647:=Int.emod_nonneg _ (by decide);have h2:(k+7919) % 2147483647<2147483647:=Int.emod_lt_of_pos _ (by decide);exact⟨by decide,.inl ⟨by omega,by omega⟩,.inl ⟨by omega,by omega⟩,by decide,q _⟩
def k7:DSp:=λws Q=>∃k:Int,ws = [.val (.int k)]/\∀a b c:Int,Q (.new [.int a,.int b,.int c])
theorem zcs(B:Blt mg)(F:Fun K "_law_pen_of" "_law_pen_of" vk f fd):FnOk P w K mg base CX0 1 f fd ["_law_cell"] (y0 K k7):=by
 refine F.dok sc__law_pen_of (λws Q h=>?_) (λcdv A outer s H ws Q E hr h=>?_)
 ·obtain⟨k,rfl,_⟩:=h;rfl
 obtain⟨k,rfl,q⟩:=h;refine⟨_,(zf (yn (i:=1) sc__law_pen_of.nd rfl (Or.inl rfl) (xb (zib rfl) rfl B.max boot_max (zr (zb 0) (zr (DE.dv (zq vh (DE.dv zc) (zb 0))) yg)))) (zj (zn8 (yw (za (zt 1) (za (y3 zsz rfl B.intT boot_int (zr (DE.dv (zlj zt2 (zb 1) (DE.dv (zq zll (DE.dv zc) (DE.dv zc))) (zx _))) yg)) (za (zq zlk (zb 1) (DE.dv zc)) zg))))))),?_⟩;walk_at "ds";exact⟨⟨by decide,by decide,by decide⟩,by decide,q _ _ _⟩
def zmy:Sp:=λvs H Q _=>∃k:Int,vs = [.int k]/\∀(v:Int) H',Same H H'->Q (.int v) H'
theorem zrx{k:Nat}{x:Str}{ps:List Str}(C:Cal P w K mg base k x ps (y0 K qm)):Cal P w K mg base k x ps zmy:=by
 obtain⟨f,fd,F,r⟩:=C;refine⟨f,fd,F.imp λvs H Q E h=>?_,r⟩;obtain⟨k,rfl,q⟩:=h;exact⟨[.val (.int k)],λr=>∃i:Int,r=.val (.int i),.cons (show Rep K H (.int k) _ from .int) .nil,⟨k,rfl,λv=>⟨v,rfl⟩⟩,λv H' r sm rp ⟨i,e⟩=>by subst e;cases (show Rep K H' (.int i) v from rp);exact q i H' sm⟩
theorem ze1(B:Blt mg)(F:Fun K "_law_draw" "_law_draw" kx f fd)(Cd:Cal P w K mg base 1 "_law_next" ["_law_seed"] (y0 K qm)):FnOk P w K mg base CX0 2 f fd ["_law_pen", "_law_many"] (y0 K y9):=by
 have C__law_next:=zrx Cd;refine zrf (F.ok sc__law_draw (λvs H Q E h=>?_) (λcdv A outer s H vs Q E hr h=>?_))
 ·obtain⟨p,m,rfl,_⟩:=h;rfl
 obtain⟨p,m,rfl,hm,hM,⟨a,b,c,hp⟩,q⟩:=h;refine⟨_,(j9 (zsb (zsx (zpz (zh4 zk0 (zaa ix_list (pv 0) x6 (λ_ _=>rfl)) x6 (zx _)) (znf (zh4 zo4 (zaa ix_list (pv 0) x6 (λ_ _=>rfl)) x6 (zx _))))) (j9 (zd4 (i:=2) sc__law_draw.nd rfl (Or.inl rfl) (zfi zgq (zaa ix_list (pv 0) x6 (λ_ _=>rfl)) (pv 1))) (j9 (zd3 (zfi zfp (zaa ix_list (pv 0) x6 (λ_ _=>rfl)) (pv 1)) (zgn (pv 0) x6 zb3)) (zd2 (zbz (pv 2))))) zng) (j9 (zd3 (zb4 C__law_next hr rfl (yo (zfi zky (zb4 C__law_next hr rfl (yo (zaa ix_list (pv 0) x6 (λ_ _=>rfl)) xp)) x6) xp)) (zgn (pv 0) x6 zb3)) (zd2 (zbz (zfi zgq (zfi zfp (zaa ix_list (pv 0) x6 (λ_ _=>rfl)) x6) (pv 1)))))),?_⟩;have hS:SqL K H p [.int a,.int b,.int c]:=SqL.of hp;refine⟨_,rfl,p,_,_,_,rfl,rfl,hS,rfl,rfl,_,rfl,?_⟩;refine zss (λc1=>?_) (λc1=>?_)
 ·refine⟨_,rfl,p,_,_,_,rfl,rfl,hS,rfl,_,_,rfl,rfl,_,rfl,?_⟩;refine zss (λc2=>?_) (λc2=>?_)
  ·refine⟨_,rfl,p,_,_,_,rfl,rfl,hS,rfl,_,rfl,_,_,rfl,rfl,hm,?_⟩;refine⟨_,rfl,p,_,_,_,rfl,rfl,hS,rfl,_,rfl,_,_,rfl,rfl,⟨hm,hM⟩,?_⟩;refine⟨_,rfl,p,_,_,_,rfl,rfl,hp,rfl,?_⟩;exact⟨_,rfl,q _ _ (Int.emod_nonneg _ (by omega)) (Int.emod_lt_of_pos _ hm) ⟨a / m,b,c,zm⟩ But.write⟩
  ·refine⟨_,rfl,p,_,_,_,rfl,rfl,hS,rfl,_,rfl,λv1 H1 s1=>⟨_,_,rfl,rfl,_,rfl,λv2 H2 s2=>⟨_,rfl,p,_,_,_,rfl,rfl,s2 _ _ (s1 _ _ hp),rfl,?_⟩⟩⟩;refine⟨_,rfl,p,_,_,_,rfl,rfl,SqL.of zm,rfl,_,_,rfl,rfl,⟨by decide,by decide⟩,_,rfl,_,_,rfl,rfl,hm,?_⟩;exact q _ _ (Int.emod_nonneg _ (by omega)) (Int.emod_lt_of_pos _ hm) ⟨a,b,v2,zm⟩ ((But.of_same (s1.trans s2)).trans But.write)
 ·refine ztz ?_;refine⟨_,rfl,p,_,_,_,rfl,rfl,hS,rfl,_,rfl,λv1 H1 s1=>⟨_,_,rfl,rfl,_,rfl,λv2 H2 s2=>⟨_,rfl,p,_,_,_,rfl,rfl,s2 _ _ (s1 _ _ hp),rfl,?_⟩⟩⟩;refine⟨_,rfl,p,_,_,_,rfl,rfl,SqL.of zm,rfl,_,_,rfl,rfl,⟨by decide,by decide⟩,_,rfl,_,_,rfl,rfl,hm,?_⟩;exact q _ _ (Int.emod_nonneg _ (by omega)) (Int.emod_lt_of_pos _ hm) ⟨a,b,v2,zm⟩ ((But.of_same (s1.trans s2)).trans But.write)
def ze2:DSp:=λws Q=>∃ns:List Int,ws = [.scr ns]/\ns.length<=63/\Q (.val (.bool true))
theorem atI_end{α:Type}(xs:List α)(x:α):atI (xs ++ [x]) (-1)=some x:=zfm xs x
theorem qo{a b:Int}(h1:0<=a)(h2:a<=1000000000)(h3:0<=b)(h4:b<=1000000000):CMul a b:=.inl ⟨by omega,by omega⟩
def zau(s:List (Int×Int))(b:Int):Bool:=s.any λr=>decide (r.1<=b/\b<r.2)
def pD(r:Int×Int):D:=.tuple [.int r.1,.int r.2]
theorem ze3{r:Int×Int}(h1 : -1000000000<=r.1)(h2:r.1<=1000000000)(h3 : -1000000000<=r.2)(h4:r.2<=1000000000):Sh (pD r) 89 1 :=
 Sh.tup (n:=41) (k:=0) (m:=2) (yq (Sh.intB (by omega) (by omega)) (yq (Sh.intB (by omega) (by omega)) zbb)) (Nat.le_refl 2)
def Mm(s:List (Int×Int))(x:Int):Prop:=∃r∈s,r.1<=x/\x<r.2
def Cn(s:List (Int×Int)):Prop:=(∀r∈s,r.1<r.2)/\s.Pairwise λa b=>a.2<b.1
theorem sil_iff{s:List (Int×Int)}{b:Int}:zau s b=true↔Mm s b:=by
 unfold zau Mm;rw[List.any_eq_true];constructor
 ·rintro ⟨r,hr,h⟩;exact⟨r,hr,of_decide_eq_true h⟩
 ·rintro ⟨r,hr,h⟩;exact⟨r,hr,decide_eq_true h⟩
theorem j7{x:Int}:¬ Mm [] x:=λ⟨_,hr,_⟩=>nomatch hr
theorem mm_cons{r:Int×Int}{s:List (Int×Int)}{x:Int}:Mm (r::s) x↔(r.1<=x/\x<r.2)\/Mm s x:=by
 unfold Mm;simp
theorem qp{s t:List (Int×Int)}{x:Int}:Mm (s++t) x↔Mm s x\/Mm t x:=by
 unfold Mm;simp only[List.mem_append];constructor
 ·rintro ⟨r,h|h,q⟩
  ·exact .inl ⟨r,h,q⟩
  ·exact .inr ⟨r,h,q⟩
 ·rintro (⟨r,h,q⟩ |⟨r,h,q⟩)
  ·exact⟨r,.inl h,q⟩
  ·exact⟨r,.inr h,q⟩
theorem zct{c:Int×Int}{x:Int}:Mm [c] x↔c.1<=x/\x<c.2:=by
 unfold Mm;simp
theorem Cn.head{r:Int×Int}{s:List (Int×Int)}(h:Cn (r::s)):r.1<r.2/\∀x∈s,r.2<x.1:=⟨h.1 r List.mem_cons_self,(List.pairwise_cons.mp h.2).1⟩
theorem Cn.tail{r:Int×Int}{s:List (Int×Int)}(h:Cn (r::s)):Cn s:=⟨λx hx=>h.1 x (List.mem_cons_of_mem _ hx),(List.pairwise_cons.mp h.2).2⟩
theorem zhw:Cn []:=⟨λ_ h=>(nomatch h),List.Pairwise.nil⟩
theorem zcu{s t:List (Int×Int)}(hs:Cn s)(ht:Cn t)(h:∀a∈s,∀b∈t,a.2<b.1):Cn (s++t) :=
 ⟨λr hr=>(List.mem_append.mp hr).elim (hs.1 r) (ht.1 r),List.pairwise_append.mpr ⟨hs.2,ht.2,h⟩⟩
theorem ze4{c:Int×Int}(h:c.1<c.2):Cn [c]:=⟨λr hr=>by cases List.mem_singleton.mp hr;exact h,List.pairwise_singleton _ _⟩
theorem Cn.snoc{s:List (Int×Int)}{c:Int×Int}(h:Cn (s ++ [c])):Cn s/\c.1<c.2/\∀a∈s,a.2<c.1:=by
 obtain⟨h1,h2⟩:=h;rw[List.pairwise_append]at h2;exact⟨⟨λr hr=>h1 r (List.mem_append_left _ hr),h2.1⟩,h1 c (List.mem_append_right _ List.mem_cons_self),λa ha=>h2.2.2 a ha c List.mem_cons_self⟩
theorem zpm{a b:Int×Int}{s t:List (Int×Int)}(ha:Cn (a::s))(hb:Cn (b::t))(h:∀x,Mm (a::s) x->Mm (b::t) x):b.1<=a.1:=by
 have h1:=ha.head.1;have h2:=hb.head;obtain⟨r,hr,h3,h4⟩:=h a.1 ⟨a,List.mem_cons_self,by omega,h1⟩;rcases List.mem_cons.mp hr with rfl|hr
 ·exact h3
 ·have:=h2.2 r hr;have:=h2.1;omega
theorem zmz{a b:Int×Int}{s t:List (Int×Int)}(ha:Cn (a::s))(e:a.1=b.1)(h:∀x,Mm (b::t) x->Mm (a::s) x):b.2<=a.2:=by
 have h1:=ha.head
 by_cases c:b.2<=a.2
 ·exact c
 ·have h0:=h1.1;obtain⟨r,hr,h3,h4⟩:=h a.2 ⟨b,List.mem_cons_self,by omega,by omega⟩;rcases List.mem_cons.mp hr with rfl|hr
  ·omega
  ·have:=h1.2 r hr;omega
theorem zm0{a:Int×Int}{s t:List (Int×Int)}(ha:Cn (a::s))(h:∀x,Mm (a::s) x->Mm (a::t) x){x:Int}(hx:Mm s x):Mm t x:=by
 rcases mm_cons.mp (h x (mm_cons.mpr (.inr hx))) with q|q
 ·obtain⟨r,hr,h1,h2⟩:=hx;have:=ha.head.2 r hr;omega
 ·exact q
theorem ze5:∀{s t:List (Int×Int)},Cn s->Cn t->(∀x,Mm s x↔Mm t x)->s=t
 |[],[],_,_,_=>rfl
 |[],b::t,_,ht,h=>absurd ((h b.1).mpr ⟨b,List.mem_cons_self,Int.le_refl _,ht.head.1⟩) j7
 |a::s,[],hs,_,h=>absurd ((h a.1).mp ⟨a,List.mem_cons_self,Int.le_refl _,hs.head.1⟩) j7
 |a::s,b::t,hs,ht,h=>by
  have e1:a.1=b.1:=Int.le_antisymm (zpm ht hs λx=>(h x).mpr) (zpm hs ht λx=>(h x).mp);have e2:a.2=b.2:=Int.le_antisymm (zmz ht e1.symm λx=>(h x).mp) (zmz hs e1 λx=>(h x).mpr);obtain rfl:a=b:=Prod.ext e1 e2;rw[ze5 hs.tail ht.tail λx=>⟨zm0 hs λx=>(h x).mp,zm0 ht λx=>(h x).mpr⟩]
theorem zta{s:List (Int×Int)}{lo hi:Int}(h:Cn s)(hm:∀x,Mm s x->lo<=x/\x<hi):∀r∈s,lo<=r.1/\r.1<r.2/\r.2<=hi:=λr hr=>by
 have h1:=h.1 r hr;have h2:=hm r.1 ⟨r,hr,by omega,h1⟩;have h3:=hm (r.2-1) ⟨r,hr,by omega,by omega⟩;omega
def Jg(P:Int->Prop)(e:Int)(s:List (Int×Int)):Prop:=Cn s/\(∀r∈s,r.2<=e)/\∀x,Mm s x↔P x/\x<e
theorem ztb{P:Int->Prop}{e f:Int}{s:List (Int×Int)}(j:Jg P e s)(h:e<f)(n:¬ P e)(k:∀x,e<=x->x<f->(P x↔P e)):Jg P f s :=
 ⟨j.1,λr hr=>by have:=j.2.1 r hr;omega,λx=>by
  rw[j.2.2 x];constructor
  ·exact λq=>⟨q.1,by omega⟩
  ·rintro ⟨q1,q2⟩
   by_cases c:x<e
   ·exact⟨q1,c⟩
   ·exact absurd ((k x (by omega) q2).mp q1) n⟩
theorem zm1{P:Int->Prop}{e f:Int}{s:List (Int×Int)}(j:Jg P e s)(h:e<f)(n:P e)(k:∀x,e<=x->x<f->(P x↔P e))(g:∀t c,s=t ++ [c]->c.2≠e):Jg P f (s ++ [(e,f)]):=by
 have lt:∀a∈s,a.2<e:=λa ha=>by
  rcases List.eq_nil_or_concat s with rfl |⟨t,c,e1⟩
  ·cases ha
  ·rw[List.concat_eq_append]at e1;have h1:=g t c e1;subst e1;have h2:=j.2.1 c (List.mem_append_right _ List.mem_cons_self);have h3:=j.1.snoc;rcases List.mem_append.mp ha with ha|ha
   ·have:=h3.2.2 a ha;have:=h3.2.1;omega
   ·cases List.mem_singleton.mp ha;omega
 refine⟨zcu j.1 (ze4 h) (λa ha b hb=>?_),λr hr=>?_,λx=>?_⟩
 ·cases List.mem_singleton.mp hb;exact lt a ha
 ·rcases List.mem_append.mp hr with hr|hr
  ·have:=j.2.1 r hr;omega
  ·cases List.mem_singleton.mp hr;exact Int.le_refl _
 ·rw[qp,zct,j.2.2 x];constructor
  ·rintro (q|q)
   ·exact⟨q.1,by omega⟩
   ·exact⟨(k x q.1 q.2).mpr n,q.2⟩
  ·rintro ⟨q1,q2⟩
   by_cases c:x<e
   ·exact .inl ⟨q1,c⟩
   ·exact .inr ⟨by show e<=x;omega,q2⟩
theorem zry{P:Int->Prop}{e f:Int}{s:List (Int×Int)}{c:Int×Int}(j:Jg P e (s ++ [c]))(h:e<f)(n:P e)(k:∀x,e<=x->x<f->(P x↔P e))(g:c.2=e):Jg P f (s ++ [(c.1,f)]):=by
 obtain⟨h1,h2,h3⟩:=j.1.snoc;refine⟨zcu h1 (ze4 (by show c.1<f;omega)) (λa ha b hb=>?_),λr hr=>?_,λx=>?_⟩
 ·cases List.mem_singleton.mp hb;exact h3 a ha
 ·rcases List.mem_append.mp hr with hr|hr
  ·have:=j.2.1 r (List.mem_append_left _ hr);omega
  ·cases List.mem_singleton.mp hr;exact Int.le_refl _
 ·have q:=j.2.2 x;rw[qp,zct]at q ⊢;constructor
  ·rintro (z|z)
   ·have:=q.mp (.inl z);exact⟨this.1,by omega⟩
   ·by_cases y:x<e
    ·exact⟨(q.mp (.inr ⟨z.1,by omega⟩)).1,z.2⟩
    ·exact⟨(k x (by omega) z.2).mpr n,z.2⟩
  ·rintro ⟨q1,q2⟩
   by_cases y:x<e
   ·rcases q.mpr ⟨q1,y⟩ with z|z
    ·exact .inl z
    ·exact .inr ⟨z.1,by show x<f;omega⟩
   ·exact .inr ⟨by show c.1<=x;omega,q2⟩
theorem zi6{s:List (Int×Int)}{e x:Int}(h:e<=x)(k:∀r∈s,(r.1<=e\/x<r.1)/\(r.2<=e\/x<r.2)):Mm s x↔Mm s e:=by
 constructor
 ·rintro ⟨r,hr,h1,h2⟩;have:=k r hr;exact⟨r,hr,by omega,by omega⟩
 ·rintro ⟨r,hr,h1,h2⟩;have:=k r hr;exact⟨r,hr,by omega,by omega⟩
def Eg(p s:List (Int×Int)):Prop:=Cn s/\(∀x,Mm s x↔Mm p x)/\∀c∈s,∃q∈p,c.1=q.1
theorem zm2{p s:List (Int×Int)}{r:Int×Int}(g:Eg p s)(hr:r.1<r.2)(h:∀t c,s=t ++ [c]->c.2<r.1):Eg (p ++ [r]) (s ++ [r]):=by
 refine⟨zcu g.1 (ze4 hr) (λa ha b hb=>?_),λx=>?_,λc hc=>?_⟩
 ·cases List.mem_singleton.mp hb;rcases List.eq_nil_or_concat s with rfl |⟨t,c,e1⟩
  ·cases ha
  ·rw[List.concat_eq_append]at e1;have h1:=h t c e1;subst e1;have h3:=g.1.snoc;rcases List.mem_append.mp ha with ha|ha
   ·have:=h3.2.2 a ha;have:=h3.2.1;omega
   ·cases List.mem_singleton.mp ha;omega
 ·rw[qp,qp,g.2.1 x]
 ·rcases List.mem_append.mp hc with hc|hc
  ·obtain⟨q,hq,e⟩:=g.2.2 c hc;exact⟨q,List.mem_append_left _ hq,e⟩
  ·exact⟨c,List.mem_append_right _ hc,rfl⟩
theorem zrz{p s:List (Int×Int)}{c r:Int×Int}(g:Eg p (s ++ [c]))(hr:r.1<r.2)(h1:c.1<=r.1)(h2:r.1<=c.2):Eg (p ++ [r]) (s ++ [(c.1,max c.2 r.2)]):=by
 obtain⟨k1,k2,k3⟩:=g.1.snoc;refine⟨zcu k1 (ze4 (by show c.1<max c.2 r.2;omega)) (λa ha b hb=>?_),λx=>?_,λd hd=>?_⟩
 ·cases List.mem_singleton.mp hb;exact k3 a ha
 ·have q:=g.2.1 x;rw[qp,zct]at q;rw[qp,zct,qp,zct,<-q];constructor
  ·rintro (z|z)
   ·exact .inl (.inl z)
   ·by_cases y:x<c.2
    ·exact .inl (.inr ⟨z.1,y⟩)
    ·have:=z.2;exact .inr ⟨by omega,by simp only[]at this;omega⟩
  ·rintro ((z|z)|z)
   ·exact .inl z
   ·exact .inr ⟨z.1,by show x<max c.2 r.2;omega⟩
   ·exact .inr ⟨by show c.1<=x;omega,by show x<max c.2 r.2;omega⟩
 ·rcases List.mem_append.mp hd with hd|hd
  ·obtain⟨q,hq,e⟩:=g.2.2 d (List.mem_append_left _ hd);exact⟨q,List.mem_append_left _ hq,e⟩
  ·cases List.mem_singleton.mp hd;obtain⟨q,hq,e⟩:=g.2.2 c (List.mem_append_right _ List.mem_cons_self);exact⟨q,List.mem_append_left _ hq,e⟩
def jg(r q:Int×Int):Int×Int:=(max r.1 q.1,min r.2 q.2)
def ltR(r:Int×Int):Bool:=decide (r.1<r.2)
def zcv(a b:List (Int×Int)):List (Int×Int):=(a.flatMap λr=>b.map (jg r)).filter ltR
theorem zr0(r:Int×Int){b:List (Int×Int)}(h:Cn b):Cn ((b.map (jg r)).filter ltR):=by
 refine⟨λx hx=>of_decide_eq_true (List.mem_filter.mp hx).2,List.Pairwise.filter _ ?_⟩;rw[List.pairwise_map];refine h.2.imp λ{x y} hxy=>?_;simp only[jg];omega
theorem zr1(r:Int×Int)(b:List (Int×Int))(x:Int):Mm ((b.map (jg r)).filter ltR) x↔(r.1<=x/\x<r.2)/\Mm b x:=by
 constructor
 ·rintro ⟨q,hq,h1,h2⟩;obtain⟨y,hy,rfl⟩:=List.mem_map.mp (List.mem_filter.mp hq).1;simp only[jg]at h1 h2;exact⟨by omega,y,hy,by omega,by omega⟩
 ·rintro ⟨h,y,hy,h1,h2⟩;refine⟨jg r y,List.mem_filter.mpr ⟨List.mem_map_of_mem hy,decide_eq_true ?_⟩,?_,?_⟩ <;> simp only[jg] <;> omega
theorem zdw(r:Int×Int)(a b:List (Int×Int)):zcv (r::a) b=(b.map (jg r)).filter ltR++zcv a b:=by
 unfold zcv;rw[List.flatMap_cons,List.filter_append]
theorem ze6(b:List (Int×Int))(x:Int):∀a:List (Int×Int),Mm (zcv a b) x↔Mm a x/\Mm b x
 |[]=>⟨λh=>absurd h j7,λh=>absurd h.1 j7⟩
 |r::a=>by
  rw[zdw,qp,zr1,ze6 b x a,mm_cons];constructor
  ·rintro (⟨h1,h2⟩ |⟨h1,h2⟩)
   ·exact⟨.inl h1,h2⟩
   ·exact⟨.inr h1,h2⟩
  ·rintro ⟨h1|h1,h2⟩
   ·exact .inl ⟨h1,h2⟩
   ·exact .inr ⟨h1,h2⟩
theorem ze7{b:List (Int×Int)}(hb:Cn b):∀{a:List (Int×Int)},Cn a->Cn (zcv a b)
 |[],_=>zhw
 |r::a,ha=>by
  rw[zdw];refine zcu (zr0 r hb) (ze7 hb ha.tail) λx hx y hy=>?_;obtain⟨q,hq,rfl⟩:=List.mem_map.mp (List.mem_filter.mp hx).1;have hy2:=(ze7 hb ha.tail).1 y hy;have h1:=(ze6 b y.1 a).mp ⟨y,hy,Int.le_refl _,hy2⟩;obtain⟨⟨z,hz,h3,_⟩,_⟩:=h1;have:=ha.head.2 z hz;simp only[jg];omega
def owL(m:Int):Int->List (Int×Int)->List (Int×Int)
 |f,[]=>[(f,m)]
 |f,r::s=>(f,min r.1 m)::owL m r.2 s
theorem zpn(m:Int):∀{s:List (Int×Int)}{f:Int},Cn s->(∀r∈s,f<=r.1)->∀c∈owL m f s,f<=c.1
 |[],f,_,_,c,hc=>by cases List.mem_singleton.mp hc;exact Int.le_refl _
 |r::s,f,hs,h,c,hc=>by
  rcases List.mem_cons.mp hc with rfl|hc
  ·exact Int.le_refl _
  ·have h1:=zpn m hs.tail (λx hx=>Int.le_of_lt (hs.head.2 x hx)) c hc;have h2:=h r List.mem_cons_self;have:=hs.head.1;omega
theorem zpo(m:Int):∀{s:List (Int×Int)}{f:Int},Cn s->(∀r∈s,f<=r.1)->Cn ((owL m f s).filter ltR)
 |[],f,_,_=>⟨λx hx=>of_decide_eq_true (List.mem_filter.mp hx).2,List.Pairwise.filter _ (List.pairwise_singleton _ _)⟩
 |r::s,f,hs,h=>by
  have ih:=zpo m hs.tail (λx hx=>Int.le_of_lt (hs.head.2 x hx));refine⟨λx hx=>of_decide_eq_true (List.mem_filter.mp hx).2,?_⟩;have e:(owL m f (r::s)).filter ltR = [(f,min r.1 m)].filter ltR++(owL m r.2 s).filter ltR:=by rw[<-List.filter_append];rfl
  rw[e];refine List.pairwise_append.mpr ⟨List.Pairwise.filter _ (List.pairwise_singleton _ _),ih.2,λa ha b hb=>?_⟩
  cases List.mem_singleton.mp (List.mem_filter.mp ha).1;have h1:=zpn m hs.tail (λx hx=>Int.le_of_lt (hs.head.2 x hx)) b (List.mem_filter.mp hb).1;have:=hs.head.1;show min r.1 m<b.1;omega
theorem zpp{c:Int×Int}{s:List (Int×Int)}{x:Int}:Mm ((c::s).filter ltR) x↔(c.1<=x/\x<c.2)\/Mm (s.filter ltR) x:=by
 rw[List.filter_cons]
 by_cases h:c.1<c.2
 ·rw[show ltR c=true from decide_eq_true h,if_pos rfl,mm_cons]
 ·rw[show ltR c=false from decide_eq_false h,if_neg Bool.false_ne_true];constructor
  ·exact .inr
  ·rintro (z|z)
   ·omega
   ·exact z
theorem zpq(m x:Int):∀{s:List (Int×Int)}{f:Int},Cn s->(∀r∈s,f<=r.1)->(Mm ((owL m f s).filter ltR) x↔(f<=x/\x<m)/\¬ Mm s x)
 |[],f,_,_=>by
  unfold owL;rw[zpp];constructor
  ·rintro (z|z)
   ·exact⟨z,j7⟩
   ·exact absurd z j7
  ·exact λz=>.inl z.1
 |r::s,f,hs,h=>by
  have h1:=h r List.mem_cons_self;have h2:=hs.head;unfold owL;rw[zpp,zpq m x hs.tail (λx hx=>Int.le_of_lt (hs.head.2 x hx)),mm_cons];have out:x<r.2->¬ Mm s x:=λz ⟨q,hq,h3,h4⟩=>by have:=h2.2 q hq;omega
  have h20:=h2.1;constructor
  ·rintro (z|z)
   ·simp only[]at z;refine⟨by omega,?_⟩;rintro (y|y)
    ·omega
    ·exact out (by omega) y
   ·refine⟨by omega,?_⟩;rintro (y|y)
    ·omega
    ·exact z.2 y
  ·rintro ⟨z1,z2⟩
   by_cases y:x<r.1
   ·exact .inl ⟨z1.1,by show x<min r.1 m;omega⟩
   ·by_cases y2:x<r.2
    ·exact absurd (.inl ⟨by omega,y2⟩) z2
    ·exact .inr ⟨by omega,λw=>z2 (.inr w)⟩
theorem j8(m:Int):∀(s:List (Int×Int)) (f:Int),(owL m f s).length=s.length+1
 |[],_=>rfl
 |r::s,f=>by unfold owL;rw[List.length_cons,j8 m s,List.length_cons]
end
section
variable {P:Program}{w:World}{K:PySem.W.Frag}{mg:Str->Option Value}{base:Heap}{f:Addr}{fd:FuncData}
structure SOk(s:List (Int×Int)):Prop where
 le:∀r∈s,0<=r.1/\r.1<r.2/\r.2<=900010
 so:s.Pairwise λa b=>a.2<b.1
 ln:s.length<=200
theorem SOk.cn{s:List (Int×Int)}(h:SOk s):Cn s:=⟨λr hr=>(h.le r hr).2.1,h.so⟩
theorem zbh{s:List (Int×Int)}(h:SOk s):Lay (.tuple (s.map pD)) :=
 (Sh.tup (n:=89) (k:=1) (m:=200) (λd hd=>by
  obtain⟨r,hr,rfl⟩:=List.mem_map.mp hd;have:=h.le r hr;exact ze3 (by omega) (by omega) (by omega) (by omega)) (by rw[List.length_map];exact h.ln)).lay (by decide)
theorem zm3{x:D}{xs:List D}:PyData.eqv (.list (x::xs)) (.list [])=false:=by simp[PyData.eqv,PyData.eqvAll]
def zdx(s:List (Int×Int)):Int:=match s.getLast? with
 |none=>0
 |some r=>r.2
def zav:DSp:=λws Q=>∃s:List (Int×Int),ws = [.val (.list (s.map pD))]/\Q (.val (.int (zdx s)))
theorem ze8(B:Blt mg)(F:Fun K "healed_at" "healed_at" kq f fd):FnOk P w K mg base CX0 1 f fd ["story"] (y0 K zav):=by
 refine F.dok zey (λws Q h=>?_) (λcdv A outer s H ws Q E hr h=>?_)
 ·obtain⟨s,rfl,_⟩:=h;rfl
 obtain⟨s,rfl,q⟩:=h;refine⟨_,(zf (xr (zeb (jv (zb 0))) (zj (yk zc)) yx) (zj (yk (xi (DE.dv (xi (zb 0) (wz zc) (λ_ _=>rfl))) zc (λ_ _=>rfl))))),?_⟩;walk_at "ds";rcases List.eq_nil_or_concat s with rfl |⟨s,r,rfl⟩
 ·simpa[zdx]using q
 ·rw[List.concat_eq_append]at q ⊢;simp only[zdx,List.getLast?_append,List.getLast?_singleton,Option.some_or]at q;simp only[List.map_append,List.map_cons,List.map_nil];rw[if_neg (by simp)];refine⟨_,atI_end _ _,?_⟩;simp only[pD];walk_at "ds";refine⟨_,qa _ _ _,?_⟩;exact q
def Out(Q:Ret->Prop)(ex:EX)(s:List (Int×Int)):Prop:=(200<s.length->ex ("TooGreat",[("many",(s.length:Int)),("most",200)]))/\(s.length<=200->Q (.val (.tuple (s.map pD))))
def qt:zbp:=λws Q ex=>∃s:List (Int×Int),(ws = [.vw (s.map pD)]\/ws = [.val (.list (s.map pD))])/\s.length<=100000/\Out Q ex s
theorem zhx(B:Blt mg)(F:Fun K "fitting" "fitting" zbg f fd){t_MOST_STRETCHES:Tok}(G_MOST_STRETCHES:mg "MOST_STRETCHES" = some (.int 200 t_MOST_STRETCHES))(XF:Xf K mg)(R_TooGreat:zmu P w K mg base "TooGreat" ["many", "most"]):FnOk P w K mg base (CXk P w) 3 f fd ["stretches"] (xu K qt):=by
 refine F.dokX zhu (λws Q ex h=>?_) (λcdv A outer s H ws Q ex E hr h hE=>?_)
 ·obtain⟨s,rfl|rfl,_⟩:=h <;> rfl
 obtain⟨s,e,hl,q1,q2⟩:=h;rcases e with rfl|rfl
 ·obtain⟨cx_TooGreat,fx_TooGreat,ox_TooGreat,sx_TooGreat,tx_TooGreat,mx_TooGreat,nx_TooGreat,xc_TooGreat,io_TooGreat,gi_TooGreat⟩:=R_TooGreat;refine⟨_,(xf (zhi (yc zed (DE.dv (xb zb7 rfl B.len PySem.boot_len (zr (zb 0) yg))) (DE.dv (zac (d:=.int 200) (v:=.int 200) rfl G_MOST_STRETCHES ⟨_,rfl⟩ (λ_=>.int))) (zx _)) (xy (zcm (k:=1) hE hr.hd (hr.mono (by decide)) rfl mx_TooGreat nx_TooGreat xc_TooGreat io_TooGreat gi_TooGreat rfl (by decide) (za (xb zb7 rfl B.len PySem.boot_len (zr (zb 0) yg)) (za (zac (d:=.int 200) (v:=.int 200) rfl G_MOST_STRETCHES ⟨_,rfl⟩ (λ_=>.int)) zg)))) zch) (xy (w6 (yk (y3 xx rfl B.tupleT boot_tuple (zr (zb 0) yg)))))),?_⟩;walk_at "ds";rw[List.length_map]
  by_cases c:200<s.length
  ·rw[if_pos (by omega)];exact⟨[(s.length:Int),200],rfl,rfl,q1 c⟩
  ·rw[if_neg (by omega)];exact q2 (by omega)
 ·obtain⟨cx_TooGreat,fx_TooGreat,ox_TooGreat,sx_TooGreat,tx_TooGreat,mx_TooGreat,nx_TooGreat,xc_TooGreat,io_TooGreat,gi_TooGreat⟩:=R_TooGreat;refine⟨_,(xf (zhi (yc zed (DE.dv (xb zb7 rfl B.len PySem.boot_len (zr (zb 0) yg))) (DE.dv (zac (d:=.int 200) (v:=.int 200) rfl G_MOST_STRETCHES ⟨_,rfl⟩ (λ_=>.int))) (zx _)) (xy (zcm (k:=1) hE hr.hd (hr.mono (by decide)) rfl mx_TooGreat nx_TooGreat xc_TooGreat io_TooGreat gi_TooGreat rfl (by decide) (za (xb zb7 rfl B.len PySem.boot_len (zr (zb 0) yg)) (za (zac (d:=.int 200) (v:=.int 200) rfl G_MOST_STRETCHES ⟨_,rfl⟩ (λ_=>.int)) zg)))) zch) (xy (w6 (yk (y3 xx rfl B.tupleT boot_tuple (zr (zb 0) yg)))))),?_⟩;walk_at "ds";rw[List.length_map]
  by_cases c:200<s.length
  ·rw[if_pos (by omega)];exact⟨[(s.length:Int),200],rfl,rfl,q1 c⟩
  ·rw[if_neg (by omega)];exact q2 (by omega)
theorem zi7(b:Int):∀s:List (Int×Int),∃ns:List Int,s.filterMap (λr=>if r.1<=b/\b<r.2 then some (PyData.int 1) else none)=ns.map PyData.int/\zau s b = !ns.isEmpty
 |[]=>⟨[],rfl,rfl⟩
 |r::s=>by
  obtain⟨ns,e1,e2⟩:=zi7 b s;rw[List.filterMap_cons];unfold zau at *;rw[List.any_cons]
  by_cases c:r.1<=b/\b<r.2
  ·rw[if_pos c,decide_eq_true c];exact⟨1::ns,by simp[e1],rfl⟩
  ·rw[if_neg c,decide_eq_false c];exact⟨ns,by simpa using e1,by simpa using e2⟩
def vj:DSp:=λws Q=>∃(s:List (Int×Int)) (b:Int),ws = [.val (.tuple (s.map pD)),.val (.int b)]/\s.length<=200/\Q (.val (.bool (zau s b)))
theorem zaw(B:Blt mg)(F:Fun K "_law_is_silent" "_law_is_silent" wa f fd):FnOk P w K mg base CX0 1 f fd ["_law_story_here", "_law_beat"] (y0 K vj):=by
 refine F.dok zat (λws Q h=>?_) (λcdv A outer s H ws Q E hr h=>?_)
 ·obtain⟨s,b,rfl,_⟩:=h;rfl
 obtain⟨s,b,rfl,hl,q⟩:=h;refine⟨_,(zj (yk (zlj (zg2 hr) (DE.dv (DF.de (zaf rfl (N':=["_law_begin", "_law_end", "_law_beat"]) (capt:=["_law_beat"]) (k:=2) (js:=[1]) ⟨rfl,by decide,rfl,by decide,(.cons rfl .nil),rfl,(.cons rfl (Or.inl rfl) rfl (Or.inl rfl) .nil),rfl,by decide⟩ (ja (zb 0)) (λ_ _ _ _=>(xk (n:=2) rfl (zp (zn (i:=0) (show List.Nodup (["_law_begin", "_law_end", "_law_beat"]:List Str) by decide +kernel) rfl (Or.inl rfl) (Or.inr rfl)) (zp (zn (i:=1) (show List.Nodup (["_law_begin", "_law_end", "_law_beat"]:List Str) by decide +kernel) rfl (Or.inl rfl) (Or.inr rfl)) y8)))) (λ_ _ _ _=>(v7 (DWt.dt (ju (yc znx (zb 0) (zb 2) (zx _)) (k8 (yc zlm (zb 2) (zb 1) (zx _))))))) (λ_ _ _ _=>zc)))) (DE.dv (DF.de (yw zg))) (zx _)))),?_⟩;walk_at "ds";rw[List.length_map];refine⟨by omega,wv pD (λr=>if r.1<=b/\b<r.2 then some (.int 1) else none) (λr hr k hk=>?_) ?_⟩
 ·simp only[pD];walk_at "ds"
  by_cases c1:r.1<=b
  ·rw[if_pos c1]
   by_cases c2:b<r.2
   ·rw[if_pos c2];rw[if_pos ⟨c1,c2⟩]at hk;exact hk
   ·rw[if_neg c2];rw[if_neg (by omega)]at hk;exact hk
  ·rw[if_neg c1];rw[if_neg (by omega)]at hk;exact hk
 ·obtain⟨ns,e1,e2⟩:=zi7 b s;rw[e1];refine⟨zfu ns,zfu [],?_⟩;rw[e2]at q
  cases ns with
  |nil=>exact q
  |cons n ns=>rw[List.map_cons,zm3];exact q
def mvR(by_:Int)(r:Int×Int):Option (Int×Int):=if 0<r.2+by_ then some (max 0 (r.1+by_),r.2+by_) else none
def mvL(by_:Int)(s:List (Int×Int)):List (Int×Int):=s.filterMap (mvR by_)
theorem ze9(by_:Int)(s:List (Int×Int))(c:Int×Int):mvL by_ (s ++ [c])=mvL by_ s++(match mvR by_ c with|some r=>[r]|none=>[]):=by
 unfold mvL;rw[List.filterMap_append,List.filterMap_cons]
 cases mvR by_ c <;> rfl
theorem zoz{by_:Int}{s:List (Int×Int)}(h:∀r∈s,r.2+by_<=0):mvL by_ s = []:=by
 unfold mvL;rw[List.filterMap_eq_nil_iff];intro r hr;unfold mvR;rw[if_neg (by have:=h r hr;omega)]
theorem zi8{by_:Int}{s:List (Int×Int)}(o:Cn s):1000000<zdx (mvL by_ s)↔∃r∈s,1000000<r.2+by_:=by
 rcases List.eq_nil_or_concat s with rfl |⟨t,c,e⟩
 ·constructor
  ·intro h;exact absurd h (show ¬ (1000000:Int)<0 by decide)
  ·rintro ⟨r,hr,_⟩
   cases hr
 ·rw[List.concat_eq_append]at e;subst e;have h:=o.snoc
  have le:∀r∈t ++ [c],r.2<=c.2:=λr hr=>by
   rcases List.mem_append.mp hr with hr|hr
   ·have:=h.2.2 r hr;have:=h.2.1;omega
   ·cases List.mem_singleton.mp hr;exact Int.le_refl _
  by_cases p:0<c.2+by_
  ·have e:mvR by_ c=some (max 0 (c.1+by_),c.2+by_):=if_pos p;rw[ze9,e];simp only[zdx,List.getLast?_append,List.getLast?_singleton,Option.some_or];constructor
   ·exact λz=>⟨c,List.mem_append_right _ List.mem_cons_self,z⟩
   ·rintro ⟨r,hr,z⟩;have:=le r hr;omega
  ·rw[zoz λr hr=>by have:=le r hr;omega];constructor
   ·intro h;exact absurd h (by decide)
   ·rintro ⟨r,hr,z⟩;have:=le r hr;omega
def zbm:zbp:=λws Q ex=>∃(s:List (Int×Int)) (b:Int),ws = [.val (.tuple (s.map pD)),.val (.int b)]/\SOk s/\((∃r∈s,1000000<r.2+b)->ex ("NoBeat",[]))/\((¬ ∃r∈s,1000000<r.2+b)->Q (.val (.tuple ((mvL b s).map pD))))
theorem zgj(B:Blt mg)(F:Fun K "later_by" "later_by" j6 f fd){t_LAST_BEAT:Tok}(G_LAST_BEAT:mg "LAST_BEAT" = some (.int 1000000 t_LAST_BEAT))(XF:Xf K mg)(C_healed_at:Cal P w K mg base 1 "healed_at" ["story"] (y0 K zav)):FnOk P w K mg base (CXk P w) 2 f fd ["story", "by"] (xu K zbm):=by
 refine F.dokX sc_later_by (λws Q ex h=>?_) (λcdv A outer s H ws Q ex E hr h hE=>?_)
 ·obtain⟨s,b,rfl,_⟩:=h;rfl
 obtain⟨s,b,rfl,o,q1,q2⟩:=h;have ln:=o.ln;obtain⟨cx_NoBeat,mx_NoBeat,nx_NoBeat,qx_NoBeat⟩:=XF.r_NoBeat;refine⟨_,(xf (w6 (zl5 (i:=2) sc_later_by.nd rfl (Or.inl rfl) rfl (N':=["first", "last", "by"]) (capt:=["by"]) (k:=2) (js:=[1]) ⟨rfl,by decide,rfl,by decide,(.cons rfl .nil),rfl,(.cons rfl (Or.inl rfl) rfl (Or.inl rfl) .nil),rfl,by decide⟩ (ja (zb 0)) (λ_ _ _ _=>(xk (n:=2) rfl (zp (zn (i:=0) (show List.Nodup (["first", "last", "by"]:List Str) by decide +kernel) rfl (Or.inl rfl) (Or.inr rfl)) (zp (zn (i:=1) (show List.Nodup (["first", "last", "by"]:List Str) by decide +kernel) rfl (Or.inl rfl) (Or.inr rfl)) y8)))) (λ_ _ _ _=>(v7 (yc zed (DE.dv (zq yh (zb 1) (zb 2))) (DE.dv zc) (zx _)))) (λ_ _ _ _=>(zw (za (xb (zib rfl) rfl B.max boot_max (zr (DE.dv zc) (zr (DE.dv (zq yh (zb 0) (zb 2))) yg) ym)) (za (zq yh (zb 1) (zb 2)) zg)))))) (xf (zhi (yc zed (DE.dv (z9 C_healed_at hr rfl (ya 2 yb))) (DE.dv (zac (d:=.int 1000000) (v:=.int 1000000) rfl G_LAST_BEAT ⟨_,rfl⟩ (λ_=>.int))) (zx _)) (xy (zj7 hE hr.hd rfl mx_NoBeat nx_NoBeat qx_NoBeat)) zch) (xy (w6 (yk (y3 xx rfl B.tupleT boot_tuple (zr (zb 2) yg))))))),?_⟩;walk_at "ds";rw[List.length_map];refine⟨by omega,wv pD (λr=>(mvR b r).map pD) (λr hr k hk=>?_) ?_⟩
 ·unfold mvR at hk;simp only[pD];walk_at "ds"
  by_cases c:0<r.2+b
  ·rw[if_pos c];rw[if_pos c]at hk;exact hk
  ·rw[if_neg c];rw[if_neg c]at hk;exact hk
 ·have e:s.filterMap (λr=>(mvR b r).map pD)=(mvL b s).map pD:=by unfold mvL;rw[List.map_filterMap]
  rw[e];walk_at "ds";refine⟨_,rfl,?_⟩;walk_at "ds"
  by_cases c:1000000<zdx (mvL b s)
  ·rw[if_pos c];exact q1 ((zi8 o.cn).mp c)
  ·rw[if_neg c];exact q2 λz=>c ((zi8 o.cn).mpr z)
def jj:DSp:=λws Q=>∃(s:List (Int×Int)) (b:Int),ws = [.val (.tuple (s.map pD)),.val (.int b)]/\SOk s/\((∃r∈s,1000000<r.2+b)->Q (.val (.tuple [.str "beat"])))/\((¬ ∃r∈s,1000000<r.2+b)->Q (.val (.tuple ((mvL b s).map pD))))
theorem zc3(B:Blt mg)(F:Fun K "_law_later" "_law_later" qi f fd):FnOk P w K mg base CX0 1 f fd ["_law_story_here", "_law_by"] (y0 K jj):=by
 refine F.dok sc__law_later (λws Q h=>?_) (λcdv A outer s H ws Q E hr h=>?_)
 ·obtain⟨s,b,rfl,_⟩:=h;rfl
 obtain⟨s,b,rfl,o,q1,q2⟩:=h;have ln:=o.ln;refine⟨_,(zf (zah (i:=2) sc__law_later.nd rfl (Or.inl rfl) (yw zg)) (zf (w4 PassesOwn.never rfl (v6 (zt 0)) (xk (n:=2) rfl (zp (zn (i:=3) sc__law_later.nd rfl (Or.inl rfl)) (zp (zn (i:=4) sc__law_later.nd rfl (Or.inl rfl)) y8))) (zf (xr (yc zed (DE.dv (zq yh (zb 4) (zb 1))) (DE.dv zc) (zx _)) (zj (yk (zw (za yr zg ym)))) yx) (zj (xr (yc zed (DE.dv (zq yh (zb 4) (zb 1))) (DE.dv zc) (zx _)) (zj (wx 2 (zw (za (zad (yc zed (DE.dv (zq yh (zb 3) (zb 1))) (DE.dv zc) (zx _)) (zq yh (zb 3) (zb 1)) zc) (za (zq yh (zb 4) (zb 1)) zg))))) yx)))) (zj (yk (y3 xx rfl B.tupleT boot_tuple (zr (zb 2) yg)))))),?_⟩;walk_at "ds";refine we (λds σ=>∃(p z:List (Int×Int)) (u v:Option W),ds=z.map pD/\p++z=s/\(∀r∈p,r.2+b<=1000000)/\σ = [some (.val (.tuple (s.map pD))),some (.val (.int b)),some (.own (.lst ((mvL b p).map pD))),u,v]) ?_ ?_ ⟨[],s,none,none,rfl,rfl,λ_ h=>(by cases h),rfl⟩
 ·rintro d ds σ N ⟨p,z,u,v,e,ez,hp,rfl⟩ k
  cases z with
  |nil=>cases e
  |cons r z=>
   cases e;have hm:r∈s:=by rw[<-ez];simp
   have hl2:(mvL b p).length<=200:=Nat.le_trans (List.length_filterMap_le _ _) (by rw[<-ez]at ln;simp at ln;omega);simp only[pD];walk_at "ds"
   by_cases c1:1000000<r.2+b
   ·rw[if_pos c1];exact q1 ⟨r,hm,c1⟩
   ·rw[if_neg c1]
    have hp2:∀x∈p ++ [r],x.2+b<=1000000:=λx hx=>by
     rcases List.mem_append.mp hx with hx|hx
     ·exact hp x hx
     ·cases List.mem_singleton.mp hx;omega
    by_cases c2:0<r.2+b
    ·rw[if_pos c2];have e2:mvL b (p ++ [r])=mvL b p ++ [(max 0 (r.1+b),r.2+b)]:=by rw[ze9,show mvR b r=some (max 0 (r.1+b),r.2+b) from if_pos c2]
     have st:∀y:Int,y=max 0 (r.1+b)->(mvL b p).map pD ++ [PyData.tuple [.int y,.int (r.2+b)]]=(mvL b (p ++ [r])).map pD:=λy hy=>by rw[e2,List.map_append,hy];rfl
     rw[List.length_map]
     by_cases c3:0<r.1+b
     ·rw[if_pos c3];refine⟨by omega,k _ ⟨p ++ [r],z,_,_,rfl,by rw[List.append_assoc];exact ez,hp2,(by rw[st _ (by omega)])⟩⟩
     ·rw[if_neg c3];refine⟨by omega,k _ ⟨p ++ [r],z,_,_,rfl,by rw[List.append_assoc];exact ez,hp2,(by rw[st _ (by omega)])⟩⟩
    ·rw[if_neg c2];have e2:mvL b (p ++ [r])=mvL b p:=by rw[ze9,show mvR b r=none from if_neg c2,List.append_nil]
     exact k _ ⟨p ++ [r],z,_,_,rfl,by rw[List.append_assoc];exact ez,hp2,(by rw[e2])⟩
 ·rintro σ ⟨p,z,u,v,e,ez,hp,rfl⟩
  cases z with
  |cons r z=>cases e
  |nil=>
   rw[List.append_nil]at ez;subst ez;walk_at "ds";exact q2 λ⟨r,hr,h⟩=>by have:=hp r hr;omega
end
section
variable {P:Program}{w:World}{K:PySem.W.Frag}{mg:Str->Option Value}{base:Heap}{f:Addr}{fd:FuncData}
theorem zhy(t:List (Int×Int)):∃S:List (Int×Int),(zce (t.map λr=>[r.1,r.2])).map tD=S.map pD/\S.Perm t/\S.Pairwise λa b=>a.1<=b.1:=by
 have mem:∀l∈zce (t.map λr=>[r.1,r.2]),∃r:Int×Int,l = [r.1,r.2]:=λl hl=>by
  obtain⟨r,_,e⟩:=List.mem_map.mp ((j3 _).mem_iff.mp hl);exact⟨r,e.symm⟩
 refine⟨(zce (t.map λr=>[r.1,r.2])).map λl=>(l.getD 0 0,l.getD 1 0),?_,?_,?_⟩
 ·rw[List.map_map];refine List.map_congr_left λl hl=>?_;obtain⟨r,rfl⟩:=mem l hl;rfl
 ·have p:=(j3 (t.map λr=>[r.1,r.2])).map λl:List Int=>(l.getD 0 0,l.getD 1 0)
  rw[List.map_map]at p;have e:t.map ((λl:List Int=>(l.getD 0 0,l.getD 1 0)) ∘ λr=>[r.1,r.2])=t:=by
   conv=>rhs;rw[<-List.map_id t]
   exact List.map_congr_left λr _=>rfl
  rw[e]at p;exact p
 ·rw[List.pairwise_map];refine List.Pairwise.imp_of_mem (λ{a b} ha hb h=>?_) (zf1 _);obtain⟨r,rfl⟩:=mem a ha;obtain⟨q,rfl⟩:=mem b hb;show r.1<=q.1
  by_cases c:r.1<=q.1
  ·exact c
  ·exact absurd (List.cons_lt_cons_iff.mpr (.inl (by omega))) h
theorem zgk{α:Type}(xs:List α)(x:α):ixN (xs ++ [x]).length (-1)=some xs.length:=by
 unfold ixN;simp;omega
theorem zi9{α:Type}(xs:List α)(x y:α):(xs ++ [x]).set xs.length y=xs ++ [y]:=by simp
theorem zm4{n:Nat}:∀{xs:List Nat},(∀x∈xs,x<=n)->xs.sum<=xs.length * n
 |[],_=>Nat.zero_le _
 |x::xs,h=>by
  have h1:=h x List.mem_cons_self;have h2:=zm4 λy hy=>h y (List.mem_cons_of_mem _ hy);rw[List.sum_cons,List.length_cons,Nat.add_mul];omega
def zdy:zbp:=λws Q ex=>∃(a b:List (Int×Int)),ws = [.val (.tuple (a.map pD)),.val (.tuple (b.map pD))]/\SOk a/\SOk b/\∀s,Cn s->s.length<=50000->(∀x,Mm s x↔Mm a x\/Mm b x)->Out Q ex s
theorem zks(B:Blt mg)(F:Fun K "either" "either" zcr f fd)(XF:Xf K mg)(C_fitting:xl P w K mg base 3 "fitting" ["stretches"] (xu K qt)):FnOk P w K mg base (CXk P w) 4 f fd ["one", "other"] (xu K zdy):=by
 refine F.dokX sc_either (λws Q ex h=>?_) (λcdv A outer s H ws Q ex E hr h hE=>?_)
 ·obtain⟨a,b,rfl,_⟩:=h;rfl
 obtain⟨a,b,rfl,oa,ob,q⟩:=h;have la:=oa.ln;have lb:=ob.ln;refine⟨_,(xf (w6 (zah (i:=2) sc_either.nd rfl (Or.inl rfl) (yw zg))) (xf (w6 (w4 PassesOwn.never rfl (v6 (DF.de (zln zog rfl B.sorted boot_sorted (zr (DE.dv (zq yh (zb 0) (zb 1))) yg)))) (xk (n:=2) rfl (zp (zn (i:=3) sc_either.nd rfl (Or.inl rfl)) (zp (zn (i:=4) sc_either.nd rfl (Or.inl rfl)) y8))) (zj (xr (DWt.dt (ju (jv (zb 2)) (k8 (yc znx (zb 3) (DE.dv (xi (DE.dv (xi (zb 2) (wz zc) (λ_ _=>rfl))) zc (λ_ _=>rfl))) (zx _))))) (zj (zig 2 (zw (za (xi (DE.dv (xi (zb 2) (wz zc) (λ_ _=>rfl))) zc (λ_ _=>rfl)) (za (xb (zib rfl) rfl B.max boot_max (zr (DE.dv (xi (DE.dv (xi (zb 2) (wz zc) (λ_ _=>rfl))) zc (λ_ _=>rfl))) (zr (zb 4) yg))) zg))) (wz zc))) (zj (wx 2 (zw (za (zt 3) (za (zt 4) zg))))))))) (xy (zcq hE C_fitting hr rfl (ya 2 yb))))),?_⟩;walk_at "ds";refine⟨by rw[List.length_map,List.length_map];omega,.inr ⟨(a++b).map λr=>[r.1,r.2],by rw[<-List.map_append,List.map_map];rfl,λt ht=>?_,?_⟩⟩
 ·obtain⟨r,_,rfl⟩:=List.mem_map.mp ht;exact List.cons_ne_nil _ _
 obtain⟨S,e,pS,so⟩:=zhy (a++b);have lS:S.length<=400:=by rw[pS.length_eq,List.length_append];omega
 have hS:∀r∈S,r.1<r.2:=λr hr=>by
  rcases List.mem_append.mp (pS.mem_iff.mp hr) with z|z
  ·exact(oa.le r z).2.1
  ·exact(ob.le r z).2.1
 rw[e];refine we (λds σ=>∃(p z st:List (Int×Int)) (u v:Option W),ds=z.map pD/\p++z=S/\Eg p st/\st.length<=p.length/\σ = [some (.val (.tuple (a.map pD))),some (.val (.tuple (b.map pD))),some (.own (.lst (st.map pD))),u,v]) ?_ ?_ ⟨[],S,[],none,none,rfl,rfl,⟨zhw,λ_=>Iff.rfl,λ_ h=>(by cases h)⟩,Nat.le_refl _,rfl⟩
 ·rintro d ds σ N ⟨p,z,st,u,v,e,ez,g,hl,rfl⟩ k
  cases z with
  |nil=>cases e
  |cons r z=>
   cases e;have hr0:=hS r (by rw[<-ez];simp);have hp:p.length<400:=by rw[<-ez]at lS;simp at lS;omega
   have ap:(p ++ [r])++z=S:=by rw[List.append_assoc];exact ez
   rcases List.eq_nil_or_concat st with rfl |⟨t,c,rfl⟩
   ·simp only[pD];walk_at "ds";refine⟨by decide,?_⟩;exact k _ ⟨p ++ [r],z,[r],_,_,rfl,ap,zm2 g hr0 (λt c e=>by cases t <;> cases e),by simp,rfl⟩
   ·rw[List.concat_eq_append]at g hl ⊢;have el:=atI_end (t.map pD) (pD c)
    have hc:c.1<=r.1:=by
     obtain⟨y,hy,e1⟩:=g.2.2 c (List.mem_append_right _ List.mem_cons_self);rw[<-ez,List.pairwise_append]at so;have:=so.2.2 y hy r List.mem_cons_self;omega
    simp only[List.map_append,List.map_cons,List.map_nil];simp only[pD]at el ⊢;walk_at "ds";rw[if_pos (by simp)];refine⟨_,el,?_⟩;walk_at "ds";refine⟨_,qa _ _ _,?_⟩;walk_at "ds"
    by_cases c1:r.1<=c.2
    ·rw[if_pos c1];refine⟨_,el,?_⟩;walk_at "ds";refine⟨_,zb9 _ _,_,el,?_⟩;walk_at "ds";refine⟨_,qa _ _ _,?_⟩;walk_at "ds";refine⟨_,zgk _ _,?_⟩;rw[zi9];exact k _ ⟨p ++ [r],z,t ++ [(c.1,max c.2 r.2)],_,_,rfl,ap,zrz g hr0 hc c1,(by simp at hl ⊢;omega),(by rw[List.map_append];rfl)⟩
    ·rw[if_neg c1];refine⟨by simp at hl ⊢;omega,k _ ⟨p ++ [r],z,(t ++ [c]) ++ [r],_,_,rfl,ap,zm2 g hr0 (λt' c' e=>?_),(by simp at hl ⊢;omega),(by rw[List.map_append,List.map_append];rfl)⟩⟩;have:=(List.append_inj' e rfl).2
     cases this;omega
 ·rintro σ ⟨p,z,st,u,v,e,ez,g,hl,rfl⟩
  cases z with
  |cons r z=>cases e
  |nil=>
   rw[List.append_nil]at ez;subst ez;walk_at "ds";refine⟨st,.inl rfl,by omega,q st g.1 (by omega) λx=>?_⟩;rw[g.2.1 x,<-qp];constructor
   ·rintro ⟨r,hr,h⟩;exact⟨r,pS.mem_iff.mp hr,h⟩
   ·rintro ⟨r,hr,h⟩;exact⟨r,pS.mem_iff.mpr hr,h⟩
theorem zpr(s:List (Int×Int)):s.filterMap (λr=>if r.1<r.2 then some (pD r) else none)=(s.filter ltR).map pD:=by
 induction s with
 |nil=>rfl
 |cons r s ih=>
  rw[List.filterMap_cons,List.filter_cons,ih];unfold ltR
  by_cases c:r.1<r.2
  ·rw[if_pos c,decide_eq_true c,if_pos rfl];rfl
  ·rw[if_neg c,decide_eq_false c,if_neg Bool.false_ne_true]
theorem zdz{α:Type}{f:D->(Option D->Prop)->Prop}(enc F:α->D):∀{as:List α}{acc:List D}{Q:List D->Prop},(∀a∈as,∀k:Option D->Prop,k (some (F a))->f (enc a) k)->acc.length+as.length<=sizeLine->Q (acc++as.map F)->zhs f (as.map enc) acc Q
 |[],acc,Q,_,_,q=>by
  rw[List.map_nil,List.append_nil]at q;exact q
 |a::as,acc,Q,h,hl,q=>by
  rw[List.map_cons,zhs];refine h a List.mem_cons_self _ ?_;rw[List.length_cons]at hl;exact⟨by omega,zdz enc F (λb hb=>h b (List.mem_cons_of_mem _ hb)) (by rw[List.length_append,List.length_singleton];omega) (by rw[List.append_assoc];exact q)⟩
theorem zja{α:Type}{g:DTG}{tt:DTT}{ti2:DTF}{is2:List Nat}{g2:DTG}{tt2:DTT}{te:DTE}{σ0:DSt}(enc:α->D)(F:α->List D)(n B:Nat)(hF:∀a,(F a).length<=n)
  (h:∀(a:α) (acc:List D) (R:List D->Prop),acc.length+n<=B->R (acc++F a)->g (enc a) σ0 λσ1=>tt σ1 λb=>if b=true then ti2 σ1 λes=>zhs (lcF g2 tt2 te (vg is2 0 σ1)) es acc R else R acc) :
  ∀(as:List α) (acc:List D) (Q:List D->Prop),acc.length+as.length * n<=B->Q (acc++as.flatMap F)->zgi g tt ti2 is2 g2 tt2 te σ0 (as.map enc) acc Q
 |[],acc,Q,_,q=>by
  rw[List.flatMap_nil,List.append_nil]at q;exact q
 |a::as,acc,Q,hl,q=>by
  rw[List.length_cons,Nat.add_mul]at hl;rw[List.map_cons,zgi];refine h a acc _ (by omega) (zja enc F n B hF h as _ Q ?_ ?_)
  ·have:=hF a;rw[List.length_append];omega
  ·rw[List.append_assoc];exact q
def zjb:zbp:=λws Q ex=>∃(a b:List (Int×Int)),ws = [.val (.tuple (a.map pD)),.val (.tuple (b.map pD))]/\SOk a/\SOk b/\∀s,Cn s->s.length<=50000->(∀x,Mm s x↔Mm a x/\Mm b x)->Out Q ex s
theorem zo0(B:Blt mg)(F:Fun K "both" "both" zhv f fd)(XF:Xf K mg)(C_fitting:xl P w K mg base 3 "fitting" ["stretches"] (xu K qt)):FnOk P w K mg base (CXk P w) 4 f fd ["one", "other"] (xu K zjb):=by
 refine F.dokX sc_both (λws Q ex h=>?_) (λcdv A outer s H ws Q ex E hr h hE=>?_)
 ·obtain⟨a,b,rfl,_⟩:=h;rfl
 obtain⟨a,b,rfl,oa,ob,q⟩:=h;have la:=oa.ln;have lb:=ob.ln;refine⟨_,(xf (w6 (zkq (i:=2) sc_both.nd rfl (Or.inl rfl) rfl (N':=["a", "b", "c", "d", "other"]) (capt:=["other"]) (k:=4) (js:=[1]) ⟨rfl,by decide,rfl,by decide,(.cons rfl .nil),rfl,(.cons rfl (Or.inl rfl) rfl (Or.inl rfl) .nil),rfl,by decide⟩ (ja (zb 0)) (λ_ _ _ _=>(xk (n:=2) rfl (zp (zn (i:=0) (show List.Nodup (["a", "b", "c", "d", "other"]:List Str) by decide +kernel) rfl (Or.inl rfl) (Or.inr rfl)) (zp (zn (i:=1) (show List.Nodup (["a", "b", "c", "d", "other"]:List Str) by decide +kernel) rfl (Or.inl rfl) (Or.inr rfl)) y8)))) (λ_ _ _ _=>zae) (λ_ _ _ _=>(v6 (zt 4))) (λ_ _ _ _=>(xk (n:=2) rfl (zp (zn (i:=2) (show List.Nodup (["a", "b", "c", "d", "other"]:List Str) by decide +kernel) rfl (Or.inl rfl) (Or.inr rfl)) (zp (zn (i:=3) (show List.Nodup (["a", "b", "c", "d", "other"]:List Str) by decide +kernel) rfl (Or.inl rfl) (Or.inr rfl)) y8)))) (λ_ _ _ _=>zae) (λ_ _ _ _=>(zw (za (xb (zib rfl) rfl B.max boot_max (zr (zb 0) (zr (zb 2) yg))) (za (xb (zpd rfl) rfl B.min boot_min (zr (zb 1) (zr (zb 3) yg))) zg)))))) (xy (zcq hE C_fitting hr rfl (yz (DF.de (zaf rfl (N':=["first", "last"]) (capt:=[]) (k:=2) (js:=[]) ⟨rfl,by decide,rfl,by decide,.nil,rfl,.nil,rfl,by decide⟩ (ja (zb 2)) (λ_ _ _ _=>(xk (n:=2) rfl (zp (zn (i:=0) (show List.Nodup (["first", "last"]:List Str) by decide +kernel) rfl (Or.inl rfl) (Or.inr rfl)) (zp (zn (i:=1) (show List.Nodup (["first", "last"]:List Str) by decide +kernel) rfl (Or.inl rfl) (Or.inr rfl)) y8)))) (λ_ _ _ _=>(v7 (yc zlm (zb 0) (zb 1) (zx _)))) (λ_ _ _ _=>(zw (za (zt 0) (za (zt 1) zg)))))) yb)))),?_⟩;walk_at "ds";refine zja pD (λr=>b.map λy=>pD (jg r y)) 200 50000 (λr=>by rw[List.length_map];exact lb) (λr acc R hl hR=>?_) a [] _ (by rw[List.length_nil];omega) ?_
 ·simp only[pD];walk_at "ds";refine zdz pD (λy=>pD (jg r y)) (λy _ K hk=>?_) (by rw[sizeLine_eq];omega) hR;simp only[pD,jg]at hk ⊢;walk_at "ds";exact hk
 ·have e:a.flatMap (λr=>b.map λy=>pD (jg r y))=(a.flatMap λr=>b.map (jg r)).map pD:=by
   rw[List.map_flatMap];refine congrArg (λf=>List.flatMap f a) (funext λr=>?_);rw[List.map_map];rfl
  have l1:(a.flatMap λr=>b.map (jg r)).length<=40000:=by
   rw[List.length_flatMap];refine Nat.le_trans (zm4 (n:=200) λx hx=>?_) ?_
   ·obtain⟨r,_,rfl⟩:=List.mem_map.mp hx;rw[List.length_map];exact lb
   ·rw[List.length_map];omega
  rw[List.nil_append,e,List.length_map];refine⟨by omega,wv pD (λr=>if r.1<r.2 then some (pD r) else none) (λr hr k hk=>?_) ?_⟩
  ·simp only[pD]at hk ⊢;walk_at "ds"
   by_cases c:r.1<r.2
   ·rw[if_pos c];rw[if_pos c]at hk;exact hk
   ·rw[if_neg c];rw[if_neg c]at hk;exact hk
  ·rw[zpr];have l2:=List.length_filter_le ltR (a.flatMap λr=>b.map (jg r));exact⟨_,.inr rfl,by omega,q _ (ze7 ob.cn oa.cn) (show(zcv a b).length<=50000 by unfold zcv;omega) λx=>ze6 b x a⟩
def zax:zbp:=λws Q ex=>∃(a:List (Int×Int)) (m:Int),ws = [.val (.tuple (a.map pD)),.val (.int m)]/\SOk a/\∀s,Cn s->s.length<=50000->(∀x,Mm s x↔(0<=x/\x<m)/\¬ Mm a x)->Out Q ex s
theorem zfa(B:Blt mg)(F:Fun K "other_way" "other_way" kr f fd)(XF:Xf K mg)(C_fitting:xl P w K mg base 3 "fitting" ["stretches"] (xu K qt)):FnOk P w K mg base (CXk P w) 4 f fd ["story", "beat"] (xu K zax):=by
 refine F.dokX sc_other_way (λws Q ex h=>?_) (λcdv A outer s H ws Q ex E hr h hE=>?_)
 ·obtain⟨a,m,rfl,_⟩:=h;rfl
 obtain⟨a,m,rfl,oa,q⟩:=h;have la:=oa.ln;refine⟨_,(xf (w6 (zah (i:=2) sc_other_way.nd rfl (Or.inl rfl) (yw zg))) (xf (w6 (yn (i:=3) sc_other_way.nd rfl (Or.inl rfl) zc)) (xf (w6 (w4 PassesOwn.never rfl (v6 (zt 0)) (xk (n:=2) rfl (zp (zn (i:=4) sc_other_way.nd rfl (Or.inl rfl)) (zp (zn (i:=5) sc_other_way.nd rfl (Or.inl rfl)) y8))) (zf (wx 2 (zw (za (zt 3) (za (xb (zpd rfl) rfl B.min boot_min (zr (zb 4) (zr (zb 1) yg))) zg)))) (zj (yn (i:=3) sc_other_way.nd rfl (Or.inl rfl) (zt 5)))))) (xf (w6 (wx 2 (zw (za (zt 3) (za (zt 1) zg))))) (xy (zcq hE C_fitting hr rfl (yz (DF.de (zaf rfl (N':=["first", "last"]) (capt:=[]) (k:=2) (js:=[]) ⟨rfl,by decide,rfl,by decide,.nil,rfl,.nil,rfl,by decide⟩ (ja (zb 2)) (λ_ _ _ _=>(xk (n:=2) rfl (zp (zn (i:=0) (show List.Nodup (["first", "last"]:List Str) by decide +kernel) rfl (Or.inl rfl) (Or.inr rfl)) (zp (zn (i:=1) (show List.Nodup (["first", "last"]:List Str) by decide +kernel) rfl (Or.inl rfl) (Or.inr rfl)) y8)))) (λ_ _ _ _=>(v7 (yc zlm (zb 0) (zb 1) (zx _)))) (λ_ _ _ _=>(zw (za (zt 0) (za (zt 1) zg)))))) yb))))))),?_⟩;walk_at "ds";refine we (λds σ=>∃(z acc:List (Int×Int)) (f:Int) (u v:Option W),ds=z.map pD/\acc++owL m f z=owL m 0 a/\σ = [some (.val (.tuple (a.map pD))),some (.val (.int m)),some (.own (.lst (acc.map pD))),some (.val (.int f)),u,v]) ?_ ?_ ⟨a,[],0,none,none,rfl,rfl,rfl⟩
 ·rintro d ds σ N ⟨z,acc,f,u,v,e,ez,rfl⟩ k;have l1:=congrArg List.length ez;rw[List.length_append,j8,j8]at l1
  cases z with
  |nil=>cases e
  |cons r z=>
   cases e;simp only[pD];walk_at "ds";rw[List.length_map];rw[List.length_cons]at l1;refine⟨by omega,k _ ⟨z,acc ++ [(f,min r.1 m)],r.2,_,_,rfl,(by rw[List.append_assoc];exact ez),(by rw[List.map_append];rfl)⟩⟩
 ·rintro σ ⟨z,acc,f,u,v,e,ez,rfl⟩;have l1:=congrArg List.length ez;rw[List.length_append,j8,j8]at l1
  cases z with
  |cons r z=>cases e
  |nil=>
   rw[List.length_nil]at l1;walk_at "ds";rw[List.length_map];refine⟨by omega,?_⟩;have e:acc.map pD ++ [PyData.tuple [.int f,.int m]]=(owL m 0 a).map pD:=by rw[<-ez,List.map_append];rfl
   walk_at "ds";rw[e,List.length_map,j8];refine⟨by omega,wv pD (λr=>if r.1<r.2 then some (pD r) else none) (λr hr k hk=>?_) ?_⟩
   ·simp only[pD]at hk ⊢;walk_at "ds"
    by_cases c:r.1<r.2
    ·rw[if_pos c];rw[if_pos c]at hk;exact hk
    ·rw[if_neg c];rw[if_neg c]at hk;exact hk
   ·rw[zpr];have l2:=List.length_filter_le ltR (owL m 0 a);rw[j8]at l2;have ge:∀r∈a,0<=r.1:=λr hr=>(oa.le r hr).1;exact⟨_,.inr rfl,by omega,q _ (zpo m oa.cn ge) (by omega) λx=>zpq m x oa.cn ge⟩
end
section
variable {P:Program}{w:World}{K:PySem.W.Frag}{mg:Str->Option Value}{base:Heap}{f:Addr}{fd:FuncData}
def Pw(w m:Int)(a b:List (Int×Int))(x:Int):Prop:=(w=0/\(Mm a x\/Mm b x))\/(w=1/\Mm a x/\Mm b x)\/(w=2/\(0<=x/\x<m)/\¬ Mm a x)
def zc4(s:List (Int×Int)):D:=if 200<s.length then .tuple [.str "great",.int s.length,.int 200] else .tuple (s.map pD)
def Edg(m:Int)(p:List (Int×Int))(ns:List Int):Prop:=∀x,x∈ns↔x=0\/x=m\/∃r∈p,x=r.1\/x=r.2
theorem zm5{m:Int}{p:List (Int×Int)}{ns:List Int}(h:Edg m p ns)(r:Int×Int):Edg m (p ++ [r]) (ns ++ [r.1,r.2]):=λx=>by
 rw[List.mem_append,h x];constructor
 ·rintro ((z|z |⟨q,hq,z⟩)|z)
  ·exact .inl z
  ·exact .inr (.inl z)
  ·exact .inr (.inr ⟨q,List.mem_append_left _ hq,z⟩)
  ·refine .inr (.inr ⟨r,List.mem_append_right _ List.mem_cons_self,?_⟩);simpa using z
 ·rintro (z|z |⟨q,hq,z⟩)
  ·exact .inl (.inl z)
  ·exact .inl (.inr (.inl z))
  ·rcases List.mem_append.mp hq with hq|hq
   ·exact .inl (.inr (.inr ⟨q,hq,z⟩))
   ·cases List.mem_singleton.mp hq;refine .inr ?_;simpa using z
theorem zm6{w m e f:Int}{a b:List (Int×Int)}(h0:0<=e)(k:∀x,e<x->x<f->¬ (x=0\/x=m\/∃r∈a++b,x=r.1\/x=r.2)){x:Int}(h1:e<=x)(h2:x<f):Pw w m a b x↔Pw w m a b e:=by
 have out:∀y,e<y->y<=x->¬ (y=0\/y=m\/∃r∈a++b,y=r.1\/y=r.2):=λy z1 z2=>k y z1 (by omega);have ea:Mm a x↔Mm a e:=zi6 h1 λr hr=>by
  have z1:¬ (e<r.1/\r.1<=x):=λz=>out _ z.1 z.2 (.inr (.inr ⟨r,List.mem_append_left _ hr,.inl rfl⟩));have z2:¬ (e<r.2/\r.2<=x):=λz=>out _ z.1 z.2 (.inr (.inr ⟨r,List.mem_append_left _ hr,.inr rfl⟩));omega
 have eb:Mm b x↔Mm b e:=zi6 h1 λr hr=>by
  have z1:¬ (e<r.1/\r.1<=x):=λz=>out _ z.1 z.2 (.inr (.inr ⟨r,List.mem_append_right _ hr,.inl rfl⟩));have z2:¬ (e<r.2/\r.2<=x):=λz=>out _ z.1 z.2 (.inr (.inr ⟨r,List.mem_append_right _ hr,.inr rfl⟩));omega
 have em:(0<=x/\x<m)↔(0<=e/\e<m):=by
  have z1:¬ (e<m/\m<=x):=λz=>out _ z.1 z.2 (.inr (.inl rfl));omega
 unfold Pw;rw[ea,eb,em]
theorem zm7{w m x:Int}{a b:List (Int×Int)}(h:Pw w m a b x):(0<=x/\x<m)\/∃r∈a++b,r.1<=x/\x<r.2:=by
 rcases h with⟨_,⟨r,hr,z⟩ |⟨r,hr,z⟩⟩ |⟨_,⟨r,hr,z⟩,_⟩ |⟨_,z,_⟩
 ·exact .inr ⟨r,List.mem_append_left _ hr,z⟩
 ·exact .inr ⟨r,List.mem_append_right _ hr,z⟩
 ·exact .inr ⟨r,List.mem_append_left _ hr,z⟩
 ·exact .inl z
theorem zo1{e f:Int}{p z:List Int}(h:(p++e::f::z).Pairwise (· < ·)){x:Int}(h1:e<x)(h2:x<f):x∉p++e::f::z:=λhm=>by
 rw[List.pairwise_append,List.pairwise_cons,List.pairwise_cons]at h;rcases List.mem_append.mp hm with hm|hm
 ·have:=h.2.2 x hm e List.mem_cons_self;omega
 ·rcases List.mem_cons.mp hm with rfl|hm
  ·omega
  ·rcases List.mem_cons.mp hm with rfl|hm
   ·omega
   ·have:=h.2.1.2.1 x hm;omega
def zpD(ms:List Int):List D:=(ms.zip (ms.drop 1)).map λp=>PyData.tuple [.int p.1,.int p.2]
theorem zm8{tc:DTT}{t u:DTS}{Dn:x4}{σ:DSt}{b:Bool}(hc:∀K:Bool->Prop,K b->tc σ K)(h1:b=true->t Dn σ)(h2:b=false->u Dn σ):dIf tc t u Dn σ:=by
 refine hc _ ?_
 cases b with
 |true=>rw[if_pos rfl];exact h1 rfl
 |false=>rw[if_neg Bool.false_ne_true];exact h2 rfl
theorem zjc:∀{ms ns:List Int},ms.Nodup->(∀x∈ms,x∈ns)->ms.length<=ns.length
 |[],ns,_,_=>Nat.zero_le _
 |x::ms,ns,nd,h=>by
  obtain⟨h1,h2⟩:=List.nodup_cons.mp nd;have hx:=h x List.mem_cons_self;have:=zjc (ms:=ms) (ns:=ns.erase x) h2 λy hy=>(List.mem_erase_of_ne λz=>h1 (by rw[<-z];exact hy)).mpr (h y (List.mem_cons_of_mem _ hy));rw[List.length_erase_of_mem hx]at this;have:=List.length_pos_of_mem hx;rw[List.length_cons];omega
theorem zr2{ms ns:List Int}(pw:ms.Pairwise (· < ·))(h:∀x∈ms,x∈ns):ms.length<=ns.length:=zjc (pw.imp λh=>Int.ne_of_lt h) h
theorem zby(ss:List (Int×Int)):Lay (.list (ss.map pD)):=by
 have h:∀ss:List (Int×Int),PyData.canLayAll0 (ss.map pD)=true/\PyData.depthAll (ss.map pD)<=1:=λss=>by
  induction ss with
  |nil=>exact⟨rfl,Nat.zero_le _⟩
  |cons n ss ih=>
   refine⟨by simp[pD,PyData.canLayAll0,PyData.canLay0,ih.1],?_⟩;have:=ih.2;simp[pD,PyData.depthAll,PyData.depth];omega
 unfold Lay SeqAt.shaped;have h2:=(h ss).2;simp[PyData.canLay0,PyData.depth,(h ss).1];omega
theorem ztc(x y:Bool):inD (.bool true) [.bool x,.bool y]=(x || y):=by cases x <;> cases y <;> decide +kernel
theorem ztd(x y:Bool):inD (.bool false) [.bool x,.bool y]=(!x || !y):=by cases x <;> cases y <;> decide +kernel
theorem zjd(x:Bool):Lay (.bool x):=show SeqAt.shaped _=true by cases x <;> decide +kernel
theorem zfb(x y:Bool):Lay (.list [.bool x,.bool y]):=show SeqAt.shaped _=true by cases x <;> cases y <;> decide +kernel
theorem zfc{s:List (Int×Int)}{b:Int}(h:¬ Mm s b):zau s b=false:=by
 cases e:zau s b with
 |false=>rfl
 |true=>exact absurd (sil_iff.mp e) h
def vz:DSp:=λws Q=>∃(a b:List (Int×Int)) (w m:Int),ws = [.val (.tuple (a.map pD)),.val (.tuple (b.map pD)),.val (.int w),.val (.int m)]/\SOk a/\SOk b/\0<=m/\m<=1000000/\∀s,Cn s->s.length<=50000->(∀x,Mm s x↔Pw w m a b x)->Q (.val (zc4 s))
theorem zbi(B:Blt mg)(F:Fun K "_law_by_edges" "_law_by_edges" wn f fd)(C__law_is_silent:Cal P w K mg base 1 "_law_is_silent" ["_law_story_here", "_law_beat"] (y0 K vj)):FnOk P w K mg base CX0 2 f fd ["_law_one", "_law_other", "_law_way", "_law_most"] (y0 K vz):=by
 refine F.dok sc__law_by_edges (λws Q h=>?_) (λcdv A outer s H ws Q E hr h=>?_)
 ·obtain⟨a,b,w,m,rfl,_⟩:=h;rfl
 obtain⟨a,b,w,m,rfl,oa,ob,m0,m1,q⟩:=h;have la:=oa.ln;have lb:=ob.ln;refine⟨_,(zf (yn (i:=4) sc__law_by_edges.nd rfl (Or.inl rfl) (DF.de (yw (za zc (za (zt 3) zg) ym)))) (zf (w4 PassesOwn.never rfl (v6 (zq yh (zb 0) (zb 1))) (xk (n:=2) rfl (zp (zn (i:=5) sc__law_by_edges.nd rfl (Or.inl rfl)) (zp (zn (i:=6) sc__law_by_edges.nd rfl (Or.inl rfl)) y8))) (zj (yn (i:=4) sc__law_by_edges.nd rfl (Or.inl rfl) (zq yh (zb 4) (DE.dv (DF.de (yw (za (zt 5) (za (zt 6) zg))))))))) (zf (yn (i:=4) sc__law_by_edges.nd rfl (Or.inl rfl) (DF.de (zgh rfl B.sorted rfl B.setT rfl (zr (zb 4) yg)))) (zf (zah (i:=7) sc__law_by_edges.nd rfl (Or.inl rfl) (yw zg)) (zf (w4 PassesOwn.never rfl (zq8 rfl B.zip (za (zt 4) (za (zlp (zb 4) (zef zc) zn3) zg))) (xk (n:=2) rfl (zp (zn (i:=8) sc__law_by_edges.nd rfl (Or.inl rfl)) (zp (zn (i:=9) sc__law_by_edges.nd rfl (Or.inl rfl)) y8))) (zf (yn (i:=10) sc__law_by_edges.nd rfl (Or.inl rfl) (DF.de (yw (za (z9 C__law_is_silent hr rfl (ya 0 (ya 8 yb))) (za (z9 C__law_is_silent hr rfl (ya 1 (ya 8 yb))) zg))))) (zj (xr (DWt.dt (zh9 (DWt.dt (ju (yc (zn1 hr) (zb 2) (DE.dv zc) (zx _)) (k8 (yc (zt3 hr) (DE.dv jh) (zb 10) rfl)))) (zh9 (DWt.dt (ju (yc (zn1 hr) (zb 2) (DE.dv zc) (zx _)) (k8 (yc (zn2 hr) (DE.dv jh) (zb 10) rfl)))) (zg0 (DWt.dt (ju (yc (zn1 hr) (zb 2) (DE.dv zc) (zx _)) (ju (yc zlm (zb 8) (zb 3) (zx _)) (k8 (zeb (jv (DE.dv (xi (zb 10) zc (λ_ _=>rfl))))))))))))) (zj (xr (DWt.dt (ju (yc (zg2 hr) (zb 7) (DE.dv (DF.de (yw zg))) (zx _)) (k8 (yc (zn1 hr) (DE.dv (xi (DE.dv (xi (zb 7) (wz zc) (λ_ _=>rfl))) zc (λ_ _=>rfl))) (zb 8) (zx _))))) (zj (zig 7 (zw (za (xi (DE.dv (xi (zb 7) (wz zc) (λ_ _=>rfl))) zc (λ_ _=>rfl)) (za (zt 9) zg))) (wz zc))) (zj (wx 7 (zw (za (zt 8) (za (zt 9) zg))))))) yx)))) (zj (yk (zad (yc zed (DE.dv (xb zb7 rfl B.len PySem.boot_len (zr (zb 7) yg))) (DE.dv zc) (zx _)) (zw (za yr (za (xb zb7 rfl B.len PySem.boot_len (zr (zb 7) yg)) (za zc zg ym)) ym)) (y3 xx rfl B.tupleT boot_tuple (zr (zb 7) yg)))))))))),?_⟩;refine xz (λσ=>σ = [some (.val (.tuple (a.map pD))),some (.val (.tuple (b.map pD))),some (.val (.int w)),some (.val (.int m)),some (.val (.list ([0,m].map PyData.int))),none,none,none,none,none,none]) (λN hN=>?_) ?_
 ·walk_at "ds";exact hN _ rfl
 rintro σ rfl;refine xz (λσ=>∃(ns:List Int) (u v:Option W),ns.length<=802/\Edg m (a++b) ns/\σ = [some (.val (.tuple (a.map pD))),some (.val (.tuple (b.map pD))),some (.val (.int w)),some (.val (.int m)),some (.val (.list (ns.map PyData.int))),u,v,none,none,none,none]) (λN hN=>?_) ?_
 ·walk_at "ds";rw[<-List.map_append];refine⟨by rw[List.length_map,List.length_map];omega,?_⟩;refine we (λds σ=>∃(p z:List (Int×Int)) (ns:List Int) (u v:Option W),ds=z.map pD/\p++z=a++b/\ns.length=2+2 * p.length/\Edg m p ns/\σ = [some (.val (.tuple (a.map pD))),some (.val (.tuple (b.map pD))),some (.val (.int w)),some (.val (.int m)),some (.val (.list (ns.map PyData.int))),u,v,none,none,none,none]) ?_ ?_ ⟨[],a++b,[0,m],none,none,rfl,rfl,rfl,λx=>(by simp),rfl⟩
  ·rintro d ds σ N ⟨p,z,ns,u,v,e,ez,hl,hE,rfl⟩ k
   cases z with
   |nil=>cases e
   |cons r z=>
    cases e;have l1:=congrArg List.length ez;rw[List.length_append,List.length_append,List.length_cons]at l1;simp only[pD];walk_at "ds";refine⟨by rw[List.length_map];omega,?_⟩;exact k _ ⟨p ++ [r],z,ns ++ [r.1,r.2],_,_,rfl,(by rw[List.append_assoc];exact ez),(by simp;omega),zm5 hE r,(by rw[List.map_append];rfl)⟩
  ·rintro σ ⟨p,z,ns,u,v,e,ez,hl,hE,rfl⟩
   cases z with
   |cons r z=>cases e
   |nil=>
    rw[List.append_nil]at ez;subst ez;rw[List.length_append]at hl;exact hN _ ⟨ns,u,v,by omega,hE,rfl⟩
 rintro σ ⟨ns,u,v,hl,hE,rfl⟩;refine xz (λσ=>∃ms:List Int,ms.Pairwise (· < ·)/\(∀x,x∈ms↔x∈ns)/\σ = [some (.val (.tuple (a.map pD))),some (.val (.tuple (b.map pD))),some (.val (.int w)),some (.val (.int m)),some (.val (.list (ms.map PyData.int))),u,v,none,none,none,none]) (λN hN=>?_) ?_
 ·walk_at "ds";refine⟨ns,rfl,by omega,λms pw hm=>?_⟩;walk_at "ds";exact hN _ ⟨ms,pw,hm,rfl⟩
 rintro σ ⟨ms,pw,hm,rfl⟩;have hE2:∀x,x∈ms↔x=0\/x=m\/∃r∈a++b,x=r.1\/x=r.2:=λx=>(hm x).trans (hE x);have pos:∀x∈ms,0<=x:=λx hx=>by
  rcases (hE2 x).mp hx with z|z |⟨r,hr,z⟩
  ·omega
  ·omega
  ·have:0<=r.1/\r.1<r.2:=by
    rcases List.mem_append.mp hr with hr|hr
    ·have:=oa.le r hr;omega
    ·have:=ob.le r hr;omega
   omega
 walk_at "ds";rw[zfv _ (by decide),show(1:Int).toNat=1 from rfl,<-List.map_drop,zjy];have h0:(0:Int)∈ms:=(hE2 0).mpr (.inl rfl);have lm:ms.length<=802:=Nat.le_trans (zr2 (ns:=ns) pw λx hx=>(hm x).mp hx) hl;have e0:∃e z,ms=e::z:=by
  cases ms with
  |nil=>cases h0
  |cons e z=>exact⟨e,z,rfl⟩
 obtain⟨e0,z0,ems⟩:=e0;have he0:e0<=0:=by
  rw[ems]at h0 pw;rcases List.mem_cons.mp h0 with z|z
  ·omega
  ·have:=(List.pairwise_cons.mp pw).1 0 z;omega
 have P0:∀x,Pw w m a b x->0<=x:=λx hx=>by
  rcases zm7 hx with z |⟨r,hr,z⟩
  ·exact z.1
  ·rcases List.mem_append.mp hr with hr|hr
   ·have:=oa.le r hr;omega
   ·have:=ob.le r hr;omega
 refine we (λds σ=>∃(p:List Int) (e:Int) (z:List Int) (st:List (Int×Int)) (u v u8 u9 u10:Option W),ds=zpD (e::z)/\p++e::z=ms/\Jg (Pw w m a b) e st/\st.length<=p.length/\σ = [some (.val (.tuple (a.map pD))),some (.val (.tuple (b.map pD))),some (.val (.int w)),some (.val (.int m)),some (.val (.list (ms.map PyData.int))),u,v,some (.own (.lst (st.map pD))),u8,u9,u10]) ?_ ?_ ⟨[],e0,z0,[],u,v,none,none,none,(by rw[ems];rfl),ems.symm,⟨zhw,λ_ h=>(by cases h),λx=>⟨λh=>absurd h j7,λh=>absurd (P0 x h.1) (by omega)⟩⟩,Nat.le_refl _,rfl⟩
 ·rintro d ds σ N ⟨p,e,z,st,u,v,u8,u9,u10,ed,ez,j,hst,rfl⟩ k
  cases z with
  |nil=>cases ed
  |cons f z=>
   cases ed;have lp:p.length<802:=by rw[<-ez]at lm;simp at lm;omega
   have hef:e<f:=by
    rw[<-ez,List.pairwise_append,List.pairwise_cons]at pw;exact pw.2.1.1 f List.mem_cons_self
   have hpe:0<=e:=pos e (by rw[<-ez];simp);have cst:∀x,e<=x->x<f->(Pw w m a b x↔Pw w m a b e):=λx h1 h2=>zm6 hpe (λy y1 y2 hy=>zo1 (by rw[ez];exact pw) y1 y2 (by rw[ez];exact(hE2 y).mpr hy)) h1 h2;have ap:(p ++ [e])++f::z=ms:=by rw[List.append_assoc];exact ez
   simp only[zih,zel,zek,zie,List.set_cons_succ,List.set_cons_zero,List.length_cons,List.length_nil,Nat.zero_add,Nat.reduceAdd,true_and];refine xz (λσ=>σ = [some (.val (.tuple (a.map pD))),some (.val (.tuple (b.map pD))),some (.val (.int w)),some (.val (.int m)),some (.val (.list (ms.map PyData.int))),u,v,some (.own (.lst (st.map pD))),some (.val (.int e)),some (.val (.int f)),some (.val (.list [.bool (zau a e),.bool (zau b e)]))]) (λN hN=>?_) ?_
   ·walk_at "ds";refine⟨a,e,rfl,la,?_⟩;walk_at "ds";refine⟨b,e,rfl,lb,?_⟩;walk_at "ds";exact hN _ rfl
   rintro σ rfl
   by_cases hP:Pw w m a b e
   ·refine zm8 (b:=true) (λK hK=>?_) (λ_=>?_) (λh=>(by cases h))
    ·rcases hP with⟨rfl,hP⟩ |⟨rfl,hP⟩ |⟨rfl,hP⟩
     ·walk_at "ds";refine⟨zjd _,zfb _ _,?_⟩;rw[ztc,if_pos]
      ·exact hK
      ·rcases hP with hP|hP
       ·rw[sil_iff.mpr hP];rfl
       ·rw[sil_iff.mpr hP,Bool.or_true]
     ·walk_at "ds";rw[if_neg (by decide)];refine⟨zjd _,zfb _ _,?_⟩;rw[ztd,sil_iff.mpr hP.1,sil_iff.mpr hP.2];exact hK
     ·walk_at "ds";rw[if_neg (by decide),if_neg (by decide),if_pos hP.1.2];refine⟨_,rfl,?_⟩;rw[zfc hP.2];exact hK
    ·rcases List.eq_nil_or_concat st with rfl |⟨t,c,rfl⟩
     ·walk_at "ds";refine⟨zby [],zby [],?_⟩;rw[if_neg (by decide +kernel)];refine⟨by decide,k _ ⟨p ++ [e],f,z,[(e,f)],_,_,_,_,_,rfl,ap,zm1 j hef hP cst (λt c e=>by cases t <;> cases e),(by rw[List.length_append];simp),rfl⟩⟩
     ·rw[List.concat_eq_append]at j hst ⊢;have el:=atI_end (t.map pD) (pD c);simp only[List.map_append,List.map_cons,List.map_nil];simp only[pD]at el ⊢;walk_at "ds";refine⟨(by have:=zby (t ++ [c]);rw[List.map_append]at this;exact this),zby [],?_⟩;rw[if_pos (by cases t <;> simp[PyData.eqv,PyData.eqvAll])];refine⟨_,el,?_⟩;walk_at "ds";refine⟨_,qa _ _ _,?_⟩;walk_at "ds"
      by_cases c1:c.2=e
      ·rw[if_pos c1];refine⟨_,el,?_⟩;walk_at "ds";refine⟨_,zb9 _ _,_,zgk _ _,?_⟩;rw[zi9];exact k _ ⟨p ++ [e],f,z,t ++ [(c.1,f)],_,_,_,_,_,rfl,ap,zry j hef hP cst c1,(by simp at hst ⊢;omega),(by rw[List.map_append];rfl)⟩
      ·rw[if_neg c1];refine⟨by simp at hst ⊢;omega,k _ ⟨p ++ [e],f,z,(t ++ [c]) ++ [(e,f)],_,_,_,_,_,rfl,ap,zm1 j hef hP cst (λt' c' e'=>?_),(by simp at hst ⊢;omega),(by rw[List.map_append,List.map_append];rfl)⟩⟩;have:=(List.append_inj' e' rfl).2
       cases this;exact c1
   ·refine zm8 (b:=false) (λK hK=>?_) (λh=>(by cases h)) (λ_=>?_)
    ·walk_at "ds"
     by_cases w0:w=0
     ·subst w0;have na:¬ Mm a e:=λz=>hP (.inl ⟨rfl,.inl z⟩);have nb:¬ Mm b e:=λz=>hP (.inl ⟨rfl,.inr z⟩);rw[if_pos rfl];refine⟨zjd _,zfb _ _,?_⟩;rw[ztc,zfc na,zfc nb,if_neg (by decide),if_neg (by decide),if_neg (by decide)];exact hK
     ·rw[if_neg w0]
      by_cases w1:w=1
      ·subst w1
       have nab:(zau a e && zau b e)=false:=by
        cases e1:zau a e with
        |false=>rfl
        |true=>
         rw[zfc λz=>hP (.inr (.inl ⟨rfl,sil_iff.mp e1,z⟩))];rfl
       rw[if_pos rfl];refine⟨zjd _,zfb _ _,?_⟩;rw[ztd,if_neg (by rw[<-Bool.not_and,nab];decide),if_neg (by decide)];exact hK
      ·rw[if_neg w1]
       by_cases w2:w=2
       ·subst w2;rw[if_pos rfl]
        by_cases c:e<m
        ·rw[if_pos c];refine⟨_,rfl,?_⟩
         have:zau a e=true:=by
          cases e1:zau a e with
          |true=>rfl
          |false=>exact absurd (.inr (.inr ⟨rfl,⟨hpe,c⟩,λz=>by rw[sil_iff.mpr z]at e1;cases e1⟩)) hP
         rw[this];exact hK
        ·rw[if_neg c];exact hK
       ·rw[if_neg w2];exact hK
    ·walk_at "ds";exact k _ ⟨p ++ [e],f,z,st,_,_,_,_,_,rfl,ap,ztb j hef hP cst,(by rw[List.length_append];omega),rfl⟩
 ·rintro σ ⟨p,e,z,st,u,v,u8,u9,u10,ed,ez,j,hst,rfl⟩
  cases z with
  |cons f z=>cases ed
  |nil=>
   have lp:p.length<802:=by rw[<-ez]at lm;simp at lm;omega
   have up:∀y∈ms,y<=e:=λy hy=>by
    rw[<-ez]at hy pw;rw[List.pairwise_append]at pw;rcases List.mem_append.mp hy with hy|hy
    ·have:=pw.2.2 y hy e List.mem_cons_self;omega
    ·cases List.mem_singleton.mp hy;exact Int.le_refl _
   have all:∀x,Pw w m a b x->x<e:=λx hx=>by
    rcases zm7 hx with z |⟨r,hr,z⟩
    ·have:=up m ((hE2 m).mpr (.inr (.inl rfl)));omega
    ·have:=up r.2 ((hE2 r.2).mpr (.inr (.inr ⟨r,hr,.inr rfl⟩)));omega
   have fin:=q st j.1 (by omega) λx=>(j.2.2 x).trans ⟨λh=>h.1,λh=>⟨h,all x h⟩⟩;unfold zc4 at fin;walk_at "ds";rw[List.length_map]
   by_cases c:200<st.length
   ·rw[if_pos c]at fin;rw[if_pos (by omega)];exact fin
   ·rw[if_neg c]at fin;rw[if_neg (by omega)];exact fin
end
section
variable {P:Program}{w:World}{K:PySem.W.Frag}{mg:Str->Option Value}{base:Heap}{f:Addr}{fd:FuncData}
def jk:DSp:=λws Q=>ws = [.pen]/\∀s:List (Int×Int),SOk s->(∀r∈s,r.2<=900000)->Q (.val (.tuple (s.map pD)))
theorem zc5(B:Blt mg)(F:Fun K "_law_story" "_law_story" qh f fd)(C__law_draw:Cal P w K mg base 2 "_law_draw" ["_law_pen", "_law_many"] (y0 K y9)):FnOk P w K mg base CX0 3 f fd ["_law_pen"] (y0 K jk):=by
 refine F.dok sc__law_story (λws Q h=>?_) (λcdv A outer s H ws Q E hr h=>?_)
 ·obtain⟨rfl,_⟩:=h;rfl
 obtain⟨rfl,q⟩:=h;refine⟨_,(zf (zrd (i:=1) (j:=2) rfl sc__law_story.nd rfl rfl (by decide) rfl rfl (za (xi (DE.dv (DF.de (yw (za zc (za zc (za zc (za zc (za zc (za zc (za zc (za zc zg ym) ym) ym) ym) ym) ym) ym) ym)))) (z9 C__law_draw hr rfl (ya 0 (yz zc yb ym))) (λ_ _=>rfl)) (za (xi (DE.dv (DF.de (yw (za zc (za zc (za zc (za zc zg ym) ym) ym) ym)))) (z9 C__law_draw hr rfl (ya 0 (yz zc yb ym))) (λ_ _=>rfl)) zg)) rfl) (zf (yn (i:=3) sc__law_story.nd rfl (Or.inl rfl) (z9 C__law_draw hr rfl (ya 0 (yz zc yb ym)))) (zf (zah (i:=4) sc__law_story.nd rfl (Or.inl rfl) (yw zg)) (zf (w4 PassesOwn.never rfl (x8 rfl B.range (za (zt 1) zg)) (zn (i:=5) sc__law_story.nd rfl (Or.inl rfl)) (zf (yn (i:=6) sc__law_story.nd rfl (Or.inl rfl) (zq yh (zb 3) (DE.dv (z9 C__law_draw hr rfl (ya 0 (ya 2 yb)))))) (zf (yn (i:=3) sc__law_story.nd rfl (Or.inl rfl) (zq yh (DE.dv (zq yh (zb 6) (DE.dv zc))) (DE.dv (z9 C__law_draw hr rfl (ya 0 (ya 2 yb)))))) (zj (wx 4 (zw (za (zt 6) (za (zq vh (zb 3) (DE.dv zc)) zg)))))))) (zj (yk (y3 xx rfl B.tupleT boot_tuple (zr (zb 4) yg)))))))),?_⟩;walk_at "ds";refine wu (by first|decide|omega) (by first|decide|omega) λa la ha=>?_;walk_at "ds";refine zpg (ns:=[0,1,2,3,5,12,199,200]) (lo:=0) (hi:=200) (by omega) (by simp only[List.length_cons,List.length_nil];omega) (by intro z hz;simp only[List.mem_cons,List.not_mem_nil,or_false]at hz;omega) λn ln hn=>?_;walk_at "ds";refine wu (by first|decide|omega) (by first|decide|omega) λb lb hb=>?_;walk_at "ds";refine zpg (ns:=[1,2,7,2000]) (lo:=1) (hi:=2000) (by omega) (by simp only[List.length_cons,List.length_nil];omega) (by intro z hz;simp only[List.mem_cons,List.not_mem_nil,or_false]at hz;omega) λw lw hw=>?_;walk_at "ds";refine wu (by first|decide|omega) (by first|decide|omega) λc lc hc=>?_;walk_at "ds";refine⟨by omega,?_⟩;have hlen:(xq 0 n.toNat).length=n.toNat:=by simp[xq]
 generalize xq 0 n.toNat=ts at hlen;refine we (λds σ=>∃(s:List (Int×Int)) (at_:Int) (u v:Option W),σ = [some .pen,some (.val (.int n)),some (.val (.int w)),some (.val (.int at_)),some (.own (.lst (s.map pD))),u,v]/\s.length+ds.length<=200/\0<=at_/\at_<=3+4001 * s.length/\(∀r∈s,0<=r.1/\r.1<r.2/\r.2<=900000/\r.2<at_)/\s.Pairwise λa b=>a.2<b.1) ?_ ?_ ⟨[],_,none,none,rfl,by rw[hlen,List.length_nil];omega,by omega,by simp only[List.length_nil];omega,λa ha=>(by cases ha),List.Pairwise.nil⟩
 ·rintro d ds σ N ⟨s,at_,u,v,rfl,hl,h0,h1,hs,hp⟩ k;rw[List.length_cons]at hl;walk_at "ds";refine wu (by first|decide|omega) (by first|decide|omega) λe le he=>?_;walk_at "ds";refine wu (by first|decide|omega) (by first|decide|omega) λg lg hg=>?_;walk_at "ds";rw[List.length_map];refine⟨by omega,?_⟩;refine k _ ⟨s ++ [(at_+e,at_+e+2+g-1)],_,_,_,(by rw[List.map_append];rfl),by simp;omega,by omega,by simp;omega,?_,?_⟩
  ·intro r hr;rcases List.mem_append.mp hr with hr|hr
   ·have:=hs r hr;omega
   ·cases List.mem_singleton.mp hr;simp only[];omega
  ·rw[List.pairwise_append];refine⟨hp,List.pairwise_singleton _ _,λx hx y hy=>?_⟩
   cases List.mem_singleton.mp hy;have:=hs x hx;simp only[];omega
 ·rintro σ ⟨s,at_,u,v,rfl,hl,h0,h1,hs,hp⟩;walk_at "ds";exact q s ⟨λr hr=>⟨(hs r hr).1,(hs r hr).2.1,by have:=(hs r hr).2.2.1;omega⟩,hp,by simp only[List.length_nil]at hl;omega⟩ λr hr=>(hs r hr).2.2.1
def tth(lo hi:Int)(n:Nat):List (Int×Int):=(List.range n).map λk:Nat=>(4 *(k:Int)+lo,4 *(k:Int)+hi)
theorem zhz{lo hi:Int}{n:Nat}(h0:0<=lo)(h1:lo<hi)(h2:hi<lo+4)(h3:lo<=100)(hn:n<=200):SOk (tth lo hi n):=by
 refine⟨λr hr=>?_,?_,by unfold tth;rw[List.length_map,List.length_range];exact hn⟩
 ·obtain⟨k,hk,rfl⟩:=List.mem_map.mp hr;have:=List.mem_range.mp hk;simp only[];omega
 ·unfold tth;rw[List.pairwise_map];refine List.pairwise_lt_range.imp λ{x y} h=>?_;simp only[];omega
theorem qu:SOk []:=⟨λ_ h=>(nomatch h),List.Pairwise.nil,Nat.zero_le _⟩
def jl:DSp:=λws Q=>ws = [.pen]/\∀a b:List (Int×Int),SOk a->SOk b->Q (.val (.tuple [.tuple (a.map pD),.tuple (b.map pD)]))
theorem zc6(B:Blt mg)(F:Fun K "_law_teeth" "_law_teeth" ql f fd)(C__law_draw:Cal P w K mg base 2 "_law_draw" ["_law_pen", "_law_many"] (y0 K y9)):FnOk P w K mg base CX0 3 f fd ["_law_pen"] (y0 K jl):=by
 refine F.dok sc__law_teeth (λws Q h=>?_) (λcdv A outer s H ws Q E hr h=>?_)
 ·obtain⟨rfl,_⟩:=h;rfl
 obtain⟨rfl,q⟩:=h;refine⟨_,(zf (zem (zw (za (zq yh (DE.dv zc) (DE.dv (z9 C__law_draw hr rfl (ya 0 (yz zc yb ym))))) (za (z9 C__law_draw hr rfl (ya 0 (yz zc yb ym))) (za (z9 C__law_draw hr rfl (ya 0 (yz zc yb ym))) zg)))) (xk (n:=3) rfl (zp (zn (i:=1) sc__law_teeth.nd rfl (Or.inl rfl)) (zp (zn (i:=2) sc__law_teeth.nd rfl (Or.inr rfl)) (zp (zn (i:=3) sc__law_teeth.nd rfl (Or.inl rfl)) y8))))) (zf (yn (i:=4) sc__law_teeth.nd rfl (Or.inl rfl) (y3 xx rfl B.tupleT boot_tuple (zr (DE.dv (DF.de (zaf rfl (N':=["_law_k", "_law_first"]) (capt:=["_law_first"]) (k:=1) (js:=[2]) ⟨rfl,by decide,rfl,by decide,(.cons rfl .nil),rfl,(.cons rfl (Or.inl rfl) rfl (Or.inl rfl) .nil),rfl,by decide⟩ (DI.w (x8 rfl B.range (za (zt 1) zg))) (λ_ _ _ _=>(zn (i:=0) (show List.Nodup (["_law_k", "_law_first"]:List Str) by decide +kernel) rfl (Or.inl rfl) (Or.inr rfl))) (λ_ _ _ _=>zae) (λ_ _ _ _=>(zw (za (zq yh (DE.dv (zq ji (DE.dv zc) (zb 0))) (zb 1)) (za (zq yh (DE.dv (zq yh (DE.dv (zq ji (DE.dv zc) (zb 0))) (zb 1))) (DE.dv zc)) zg))))))) yg))) (zf (yn (i:=5) sc__law_teeth.nd rfl (Or.inl rfl) (y3 xx rfl B.tupleT boot_tuple (zr (DE.dv (DF.de (zaf rfl (N':=["_law_k", "_law_first"]) (capt:=["_law_first"]) (k:=1) (js:=[2]) ⟨rfl,by decide,rfl,by decide,(.cons rfl .nil),rfl,(.cons rfl (Or.inl rfl) rfl (Or.inl rfl) .nil),rfl,by decide⟩ (DI.w (x8 rfl B.range (za (zq vh (zb 1) (zb 3)) zg))) (λ_ _ _ _=>(zn (i:=0) (show List.Nodup (["_law_k", "_law_first"]:List Str) by decide +kernel) rfl (Or.inl rfl) (Or.inr rfl))) (λ_ _ _ _=>zae) (λ_ _ _ _=>(zw (za (zq yh (DE.dv (zq yh (DE.dv (zq ji (DE.dv zc) (zb 0))) (zb 1))) (DE.dv zc)) (za (zq yh (DE.dv (zq yh (DE.dv (zq ji (DE.dv zc) (zb 0))) (zb 1))) (DE.dv zc)) zg))))))) yg))) (zj (yk (zw (za (zt 4) (za (zt 5) zg)))))))),?_⟩;walk_at "ds";refine wu (by first|decide|omega) (by first|decide|omega) λx lx hx=>?_;walk_at "ds";refine wu (by first|decide|omega) (by first|decide|omega) λy ly hy=>?_;walk_at "ds";refine wu (by first|decide|omega) (by first|decide|omega) λz lz hz=>?_
 walk_at "ds";refine⟨⟨by omega,by omega⟩,by rw[xq,List.length_map,List.length_range];omega,?_⟩;refine zb8 (λk:Nat=>PyData.int (0+(k:Int))) (λk=>pD (4 *(k:Int)+y,4 *(k:Int)+(y+3))) (λk hk K hK=>?_) ?_
 ·walk_at "ds";have:=List.mem_range.mp hk;have cm:CMul 4 (0+(k:Int)):=qo (by omega) (by omega) (by omega) (by omega);refine⟨cm,?_⟩;rw[show(4 *(0+(k:Int))+y:Int)=4 * k+y by omega,show(4 *(k:Int)+y+3:Int)=4 * k+(y+3) by omega];exact⟨cm,hK⟩
 refine⟨⟨by omega,by omega⟩,by rw[xq,List.length_map,List.length_range];omega,?_⟩;refine zb8 (λk:Nat=>PyData.int (0+(k:Int))) (λk=>pD (4 *(k:Int)+(y+2),4 *(k:Int)+(y+5))) (λk hk K hK=>?_) ?_
 ·walk_at "ds";have:=List.mem_range.mp hk;have cm:CMul 4 (0+(k:Int)):=qo (by omega) (by omega) (by omega) (by omega);refine⟨cm,?_⟩;rw[show(4 *(0+(k:Int))+y:Int)=4 * k+y by omega,show(4 *(k:Int)+y+2:Int)=4 * k+(y+2) by omega,show(4 *(k:Int)+y+5:Int)=4 * k+(y+5) by omega];exact⟨cm,hK⟩
 have:=q (tth y (y+3) (100+x).toNat) (tth (y+2) (y+5) (100+x-z).toNat) (zhz (by omega) (by omega) (by omega) (by omega) (by omega)) (zhz (by omega) (by omega) (by omega) (by omega) (by omega));unfold tth at this;rw[List.map_map,List.map_map]at this;exact this
def jm:DSp:=λws Q=>ws = [.pen]/\∀a b:List (Int×Int),SOk a->SOk b->Q (.val (.tuple [.tuple (a.map pD),.tuple (b.map pD)]))
theorem zc7(B:Blt mg)(F:Fun K "_law_combs" "_law_combs" qk f fd)(C__law_draw:Cal P w K mg base 2 "_law_draw" ["_law_pen", "_law_many"] (y0 K y9)):FnOk P w K mg base CX0 3 f fd ["_law_pen"] (y0 K jm):=by
 refine F.dok sc__law_combs (λws Q h=>?_) (λcdv A outer s H ws Q E hr h=>?_)
 ·obtain⟨rfl,_⟩:=h;rfl
 obtain⟨rfl,q⟩:=h;refine⟨_,(zf (zem (zw (za (zq yh (DE.dv zc) (DE.dv (z9 C__law_draw hr rfl (ya 0 (yz zc yb ym))))) (za (z9 C__law_draw hr rfl (ya 0 (yz zc yb ym))) zg))) (xk (n:=2) rfl (zp (zn (i:=1) sc__law_combs.nd rfl (Or.inr rfl)) (zp (zn (i:=2) sc__law_combs.nd rfl (Or.inr rfl)) y8)))) (zf (yn (i:=3) sc__law_combs.nd rfl (Or.inr rfl) (z9 C__law_draw hr rfl (ya 0 (yz (zq yh (zb 1) (DE.dv zc)) yb)))) (zf (yn (i:=4) sc__law_combs.nd rfl (Or.inl rfl) (y3 xx rfl B.tupleT boot_tuple (zr (DE.dv (DF.de (zaf rfl (N':=["_law_k", "_law_first", "_law_left"]) (capt:=["_law_first", "_law_left"]) (k:=1) (js:=[2,3]) ⟨rfl,by decide,rfl,by decide,(.cons rfl (.cons rfl .nil)),rfl,(.cons rfl (Or.inl rfl) rfl (Or.inl rfl) (.cons rfl (Or.inl rfl) rfl (Or.inl rfl) .nil)),rfl,by decide⟩ (DI.w (x8 rfl B.range (za (zt 3) zg))) (λ_ _ _ _=>(zn (i:=0) (show List.Nodup (["_law_k", "_law_first", "_law_left"]:List Str) by decide +kernel) rfl (Or.inl rfl) (Or.inr rfl))) (λ_ _ _ _=>(v7 (yc znx (zb 2) (DE.dv zc) (zx _)))) (λ_ _ _ _=>(zw (za (zq yh (DE.dv (zq ji (DE.dv zc) (zb 0))) (zb 1)) (za (zq yh (DE.dv (zq yh (DE.dv (zq ji (DE.dv zc) (zb 0))) (zb 1))) (DE.dv zc)) zg))))))) yg))) (zf (yn (i:=5) sc__law_combs.nd rfl (Or.inl rfl) (y3 xx rfl B.tupleT boot_tuple (zr (DE.dv (DF.de (zaf rfl (N':=["_law_k", "_law_first", "_law_many", "_law_left"]) (capt:=["_law_first", "_law_many", "_law_left"]) (k:=1) (js:=[2,1,3]) ⟨rfl,by decide,rfl,by decide,(.cons rfl (.cons rfl (.cons rfl .nil))),rfl,(.cons rfl (Or.inl rfl) rfl (Or.inl rfl) (.cons rfl (Or.inl rfl) rfl (Or.inl rfl) (.cons rfl (Or.inl rfl) rfl (Or.inl rfl) .nil))),rfl,by decide⟩ (DI.w (x8 rfl B.range (za (zq vh (zb 1) (zb 3)) zg))) (λ_ _ _ _=>(zn (i:=0) (show List.Nodup (["_law_k", "_law_first", "_law_many", "_law_left"]:List Str) by decide +kernel) rfl (Or.inl rfl) (Or.inr rfl))) (λ_ _ _ _=>(v7 (yc znx (DE.dv (zq vh (zb 2) (zb 3))) (DE.dv zc) (zx _)))) (λ_ _ _ _=>(zw (za (zq yh (DE.dv (zq yh (DE.dv (zq ji (DE.dv zc) (zb 0))) (zb 1))) (DE.dv zc)) (za (zq yh (DE.dv (zq yh (DE.dv (zq ji (DE.dv zc) (zb 0))) (zb 1))) (DE.dv zc)) zg))))))) yg))) (zj (yk (zw (za (zt 4) (za (zt 5) zg))))))))),?_⟩
 walk_at "ds";refine wu (by first|decide|omega) (by first|decide|omega) λx lx hx=>?_;walk_at "ds";refine wu (by first|decide|omega) (by first|decide|omega) λy ly hy=>?_;walk_at "ds";refine wu (by first|decide|omega) (by first|decide|omega) λz lz hz=>?_;walk_at "ds";refine⟨⟨by omega,by omega⟩,by rw[xq,List.length_map,List.length_range];omega,?_⟩;refine wv (λk:Nat=>PyData.int (0+(k:Int))) (λk=>if z<=200 then some (pD (4 *(k:Int)+y,4 *(k:Int)+(y+1))) else none) (λk hk K hK=>?_) ?_
 ·walk_at "ds";have:=List.mem_range.mp hk
  by_cases c:z<=200
  ·rw[if_pos c]at hK;rw[if_pos c];have cm:CMul 4 (0+(k:Int)):=qo (by omega) (by omega) (by omega) (by omega);refine⟨cm,?_⟩;rw[show(4 *(0+(k:Int))+y:Int)=4 * k+y by omega,show(4 *(k:Int)+y+1:Int)=4 * k+(y+1) by omega];exact⟨cm,hK⟩
  ·rw[if_neg c]at hK;rw[if_neg c];exact hK
 refine⟨⟨by omega,by omega⟩,by rw[xq,List.length_map,List.length_range];omega,?_⟩;refine wv (λk:Nat=>PyData.int (0+(k:Int))) (λk=>if 199+x-z<=200 then some (pD (4 *(k:Int)+(y+2),4 *(k:Int)+(y+3))) else none) (λk hk K hK=>?_) ?_
 ·walk_at "ds";have:=List.mem_range.mp hk
  by_cases c:199+x-z<=200
  ·rw[if_pos c]at hK;rw[if_pos c];have cm:CMul 4 (0+(k:Int)):=qo (by omega) (by omega) (by omega) (by omega);refine⟨cm,?_⟩;rw[show(4 *(0+(k:Int))+y:Int)=4 * k+y by omega,show(4 *(k:Int)+y+2:Int)=4 * k+(y+2) by omega,show(4 *(k:Int)+y+3:Int)=4 * k+(y+3) by omega];exact⟨cm,hK⟩
  ·rw[if_neg c]at hK;rw[if_neg c];exact hK
 have fm:∀(c:Prop) [Decidable c] (lo hi:Int) (n:Nat),(c->n<=200)->0<=lo->lo<hi->hi<lo+4->lo<=100->∃s:List (Int×Int),SOk s/\(List.range n).filterMap (λk:Nat=>if c then some (pD (4 *(k:Int)+lo,4 *(k:Int)+hi)) else none)=s.map pD:=λc _ lo hi n hn h0 h1 h2 h3=>by
  by_cases cc:c
  ·refine⟨tth lo hi n,zhz h0 h1 h2 h3 (hn cc),?_⟩;simp only[if_pos cc];unfold tth;rw[List.map_map];exact congrFun List.filterMap_eq_map' _
  ·refine⟨[],qu,?_⟩;simp only[if_neg cc];exact List.filterMap_eq_nil_iff.mpr λ_ _=>rfl
 obtain⟨a,oa,ea⟩:=fm (z<=200) y (y+1) z.toNat (λc=>by omega) (by omega) (by omega) (by omega) (by omega);obtain⟨b,ob,eb⟩:=fm (199+x-z<=200) (y+2) (y+3) (199+x-z).toNat (λc=>by omega) (by omega) (by omega) (by omega) (by omega);rw[ea,eb];exact q a b oa ob
def jn:DSp:=λws Q=>∃s:List (Int×Int),ws = [.pen,.val (.tuple (s.map pD))]/\SOk s/\∀bs:List Int,bs.length<=10->Q (.val (.list (bs.map PyData.int)))
theorem zc8(B:Blt mg)(F:Fun K "_law_moved" "_law_moved" qj f fd)(C__law_draw:Cal P w K mg base 2 "_law_draw" ["_law_pen", "_law_many"] (y0 K y9)):FnOk P w K mg base CX0 3 f fd ["_law_pen", "_law_story_here"] (y0 K jn):=by
 refine F.dok sc__law_moved (λws Q h=>?_) (λcdv A outer s H ws Q E hr h=>?_)
 ·obtain⟨s,rfl,_⟩:=h;rfl
 obtain⟨s,rfl,o,q⟩:=h;refine⟨_,(zf (yn (i:=2) sc__law_moved.nd rfl (Or.inl rfl) (DF.de (yw (za zc (za (zq vh (DE.dv (z9 C__law_draw hr rfl (ya 0 (yz zc yb ym)))) (DE.dv zc)) (za (zq zll (DE.dv zc) (DE.dv zc)) (za (zq vh (DE.dv zc) (DE.dv (zq zll (DE.dv zc) (DE.dv zc)))) zg))) ym)))) (zf (xr (yc (zg2 hr) (zb 1) (DE.dv (zw zg)) (zx _)) (zf (zem (xi (zb 1) (z9 C__law_draw hr rfl (ya 0 (yz (xb zb7 rfl B.len PySem.boot_len (zr (zb 1) yg)) yb))) (λ_ _=>rfl)) (xk (n:=2) rfl (zp (zn (i:=3) sc__law_moved.nd rfl (Or.inl rfl)) (zp (zn (i:=4) sc__law_moved.nd rfl (Or.inl rfl)) y8)))) (zj (yn (i:=2) sc__law_moved.nd rfl (Or.inl rfl) (zq yh (zb 2) (DE.dv (DF.de (yw (za (zq vh (DE.dv zc) (zb 3)) (za (zq vh (DE.dv zc) (zb 4)) (za (zq vh (DE.dv zc) (zb 4)) (za (zq vh (DE.dv (zq vh (DE.dv zc) (zb 3))) (DE.dv zc)) (za (zq vh (DE.dv zc) (DE.dv (xi (DE.dv (xi (zb 1) (wz zc) (λ_ _=>rfl))) zc (λ_ _=>rfl)))) (za (zq vh (DE.dv zc) (DE.dv (xi (DE.dv (xi (zb 1) (wz zc) (λ_ _=>rfl))) zc (λ_ _=>rfl)))) zg))))))))))))) yx) (zj (yk (zt 2))))),?_⟩;walk_at "ds";refine wu (by first|decide|omega) (by first|decide|omega) λx lx hx=>?_;walk_at "ds";refine⟨by unfold znk;decide,by unfold znk;decide,zbh o,zbh qu,?_⟩;have ln:=o.ln;rcases List.eq_nil_or_concat s with rfl |⟨t,c,rfl⟩
 ·rw[if_neg (by simp[PyData.eqv,PyData.eqvAll])];exact q [0,x-20,_,_] (by simp)
 ·rw[List.concat_eq_append]at ln ⊢;rw[if_pos (by cases t <;> simp[PyData.eqv,PyData.eqvAll])];have el:=atI_end (t.map pD) (pD c);refine wu (by simp) (by simp at ln ⊢;omega) λz lz hz=>?_;refine zpf lz (by simpa using hz) λd2 hd2=>?_;obtain⟨r,hr,rfl⟩:=List.mem_map.mp hd2;simp only[List.map_append,List.map_cons,List.map_nil];simp only[pD]at el ⊢;walk_at "ds";refine⟨_,el,?_⟩;walk_at "ds";refine⟨_,qa _ _ _,?_⟩;walk_at "ds";refine⟨_,el,?_⟩;walk_at "ds";refine⟨_,qa _ _ _,?_⟩;walk_at "ds";exact q [0,x-20,_,_,_,_,_,_,_,_] (by simp)
def qx:DSp:=λws Q=>(ws = [.exc ("NoBeat",[])]/\Q (.val (.tuple [.str "beat"])))\/∃a b:Int,ws = [.exc ("TooGreat",[("many",a),("most",b)])]/\Q (.val (.tuple [.str "great",.int a,.int b]))
def zay:DSp:=λws Q=>(∃(a b:List (Int×Int)) (w:Int),ws = [.val (.int w),.val (.tuple (a.map pD)),.val (.tuple (b.map pD))]/\(w=0\/w=1)/\SOk a/\SOk b/\∀s,Cn s->s.length<=50000->(∀x,Mm s x↔Pw w 0 a b x)->Q (.val (zc4 s))) \/
 (∃(a:List (Int×Int)) (m:Int),ws = [.val (.int 2),.val (.tuple (a.map pD)),.val (.int m)]/\SOk a/\∀s,Cn s->s.length<=50000->(∀x,Mm s x↔Pw 2 m a [] x)->Q (.val (zc4 s))) \/
 ∃(s:List (Int×Int)) (b:Int),ws = [.val (.int 3),.val (.tuple (s.map pD)),.val (.int b)]/\SOk s/\((∃r∈s,1000000<r.2+b)->Q (.val (.tuple [.str "beat"])))/\((¬ ∃r∈s,1000000<r.2+b)->Q (.val (.tuple ((mvL b s).map pD))))
theorem zm9{Q:Ret->Prop}{ex:EX}{s:List (Int×Int)}(h1:200<s.length->Q (.val (.tuple [.str "great",.int s.length,.int 200]))->ex ("TooGreat",[("many",(s.length:Int)),("most",200)]))(q:Q (.val (zc4 s))):Out Q ex s:=by
 unfold zc4 at q;constructor
 ·intro c;rw[if_pos c]at q;exact h1 c q
 ·intro c;rw[if_neg (by omega)]at q;exact q
theorem zfd(B:Blt mg)(F:Fun K "_law_told" "_law_told" k6 f fd)(XF:Xf K mg)(C_either:xl P w K mg base 4 "either" ["one", "other"] (xu K zdy))(C_both:xl P w K mg base 4 "both" ["one", "other"] (xu K zjb))(C_other_way:xl P w K mg base 4 "other_way" ["story", "beat"] (xu K zax))(C_later_by:xl P w K mg base 2 "later_by" ["story", "by"] (xu K zbm))(C__law_refusal:zap P w K mg base 1 "_law_refusal" ["_law_e"] (y0 K qx)):FnOk P w K mg base CX0 5 f fd ["_law_way", "_law_one", "_law_other"] (y0 K zay):=by
 refine F.dok sc__law_told (λws Q h=>?_) (λcdv A outer s H ws Q E hr h=>?_)
 ·rcases h with⟨a,b,w,rfl,_⟩ |⟨a,m,rfl,_⟩ |⟨s,b,rfl,_⟩ <;> rfl
 rcases h with⟨a,b,w,rfl,hw,oa,ob,q⟩ |⟨a,m,rfl,oa,q⟩ |⟨s,b,rfl,o,q1,q2⟩
 ·obtain⟨ck,mk,kk⟩:=XF.kn;refine⟨_,(zj (zcp (i:=3) (j:=0) (kn := "KnockError") C_either C_both C_other_way C_later_by C__law_refusal hr mk kk sc__law_told.nd rfl rfl rfl rfl rfl rfl rfl rfl rfl rfl rfl (ya 1 (ya 2 yb)))),?_⟩;walk_at "ds";rcases hw with rfl|rfl
  ·refine .inl ⟨rfl,a,b,rfl,oa,ob,λs c l h=>zm9 (λc q=>⟨List.mem_cons_self,.inr ⟨_,_,rfl,q⟩⟩) (q s c l λx=>?_)⟩;rw[h x];unfold Pw;simp
  ·refine .inr (.inl ⟨rfl,a,b,rfl,oa,ob,λs c l h=>zm9 (λc q=>⟨List.mem_cons_self,.inr ⟨_,_,rfl,q⟩⟩) (q s c l λx=>?_)⟩);rw[h x];unfold Pw;simp
 ·obtain⟨ck,mk,kk⟩:=XF.kn;refine⟨_,(zj (zcp (i:=3) (j:=0) (kn := "KnockError") C_either C_both C_other_way C_later_by C__law_refusal hr mk kk sc__law_told.nd rfl rfl rfl rfl rfl rfl rfl rfl rfl rfl rfl (ya 1 (ya 2 yb)))),?_⟩;walk_at "ds";refine .inr (.inr (.inl ⟨a,m,rfl,oa,λs c l h=>zm9 (λc q=>⟨List.mem_cons_self,.inr ⟨_,_,rfl,q⟩⟩) (q s c l λx=>?_)⟩));rw[h x];unfold Pw;simp
 ·obtain⟨ck,mk,kk⟩:=XF.kn;refine⟨_,(zj (zcp (i:=3) (j:=0) (kn := "KnockError") C_either C_both C_other_way C_later_by C__law_refusal hr mk kk sc__law_told.nd rfl rfl rfl rfl rfl rfl rfl rfl rfl rfl rfl (ya 1 (ya 2 yb)))),?_⟩;walk_at "ds";refine .inr (.inr (.inr ⟨s,b,rfl,o,λc=>⟨List.mem_cons_of_mem _ List.mem_cons_self,.inl ⟨rfl,q1 c⟩⟩,q2⟩))
end
section
variable {P:Program}{w:World}{K:PySem.W.Frag}{mg:Str->Option Value}{base:Heap}{f:Addr}{fd:FuncData}
theorem zbt(B:Blt mg)(F:Fun K "_law_refusal" "_law_refusal" ve f fd)(XF:Xf K mg):FnH P w K mg base 1 f fd ["_law_e"] (y0 K qx):=by
 refine F.dokH sc__law_refusal (λws Q h=>?_) (λcdv A outer s H ws Q hr h=>?_)
 ·rcases h with⟨rfl,_⟩ |⟨a,b,rfl,_⟩ <;> rfl
 rcases h with⟨rfl,q⟩ |⟨a,b,rfl,q⟩
 ·obtain⟨cx_NoBeat,mx_NoBeat,kx_NoBeat⟩:=XF.i_NoBeat;obtain⟨cx_NoStep,mx_NoStep,kx_NoStep⟩:=XF.i_NoStep;obtain⟨cx_NoNumber,mx_NoNumber,kx_NoNumber⟩:=XF.i_NoNumber;obtain⟨cx_NoLine,mx_NoLine,kx_NoLine⟩:=XF.i_NoLine;obtain⟨cx_NoStory,mx_NoStory,kx_NoStory⟩:=XF.i_NoStory;obtain⟨cx_NoText,mx_NoText,kx_NoText⟩:=XF.i_NoText;obtain⟨cx_TooGreat,mx_TooGreat,kx_TooGreat⟩:=XF.i_TooGreat;have kt_0:=XF.t_0;refine⟨_,(zf (yn (i:=1) sc__law_refusal.nd rfl (Or.inl rfl) (DF.de (yw (za (xm 0 (c:=.ref cx_NoBeat) (cv:=.ref cx_NoBeat) (λ_ h=>h) kx_NoBeat rfl B.isinstance boot_isinstance (yv (u:=.ref cx_NoBeat) rfl mx_NoBeat rfl)) (za (xm 0 (c:=.ref cx_NoStep) (cv:=.ref cx_NoStep) (λ_ h=>h) kx_NoStep rfl B.isinstance boot_isinstance (yv (u:=.ref cx_NoStep) rfl mx_NoStep rfl)) (za (xm 0 (c:=.ref cx_NoNumber) (cv:=.ref cx_NoNumber) (λ_ h=>h) kx_NoNumber rfl B.isinstance boot_isinstance (yv (u:=.ref cx_NoNumber) rfl mx_NoNumber rfl)) (za (xm 0 (c:=.ref cx_NoLine) (cv:=.ref cx_NoLine) (λ_ h=>h) kx_NoLine rfl B.isinstance boot_isinstance (yv (u:=.ref cx_NoLine) rfl mx_NoLine rfl)) zg))))))) (zf (yn (i:=1) sc__law_refusal.nd rfl (Or.inl rfl) (zq yh (zb 1) (DE.dv (DF.de (yw (za (xm 0 (c:=.ref cx_NoStory) (cv:=.ref cx_NoStory) (λ_ h=>h) kx_NoStory rfl B.isinstance boot_isinstance (yv (u:=.ref cx_NoStory) rfl mx_NoStory rfl)) (za (xm 0 (c:=.ref cx_NoText) (cv:=.ref cx_NoText) (λ_ h=>h) kx_NoText rfl B.isinstance boot_isinstance (yv (u:=.ref cx_NoText) rfl mx_NoText rfl)) (za (xm 0 (c:=.ref cx_TooGreat) (cv:=.ref cx_TooGreat) (λ_ h=>h) kx_TooGreat rfl B.isinstance boot_isinstance (yv (u:=.ref cx_TooGreat) rfl mx_TooGreat rfl)) zg)))))))) (zf (xr (DWt.dt (zh9 (zeb (jv (DE.dv (xm 0 (c:=.type "ValueError") (cv:=.ty "ValueError") (λ_ h=>h) XF.b_ValueError rfl B.isinstance boot_isinstance (wb (u:=.type "ValueError") rfl B.ValueError (by decide +kernel) rfl))))) (zg0 (jv (DE.dv (zis 0 (cs:=[.type "LookupError",.type "TypeError",.type "ArithmeticError",.type "RuntimeError"]) (cvs:=[.ty "LookupError",.ty "TypeError",.ty "ArithmeticError",.ty "RuntimeError"]) (zcj [(.ty "LookupError",.type "LookupError"),(.ty "TypeError",.type "TypeError"),(.ty "ArithmeticError",.type "ArithmeticError"),(.ty "RuntimeError",.type "RuntimeError")] (by intro p hp u hu;simp only[List.mem_cons,List.not_mem_nil,or_false]at hp;rcases hp with rfl|rfl|rfl|rfl <;> exact hu)) kt_0 rfl B.isinstance boot_isinstance (xv (wb (u:=.type "LookupError") rfl B.LookupError (by decide +kernel) rfl) (xv (wb (u:=.type "TypeError") rfl B.TypeError (by decide +kernel) rfl) (xv (wb (u:=.type "ArithmeticError") rfl B.ArithmeticError (by decide +kernel) rfl) (xv (wb (u:=.type "RuntimeError") rfl B.RuntimeError (by decide +kernel) rfl) zf7)))) (Nat.le_of_ble_eq_true rfl))))))) (zj (yk (zw (za yr zg ym)))) yx) (zf (xr (yc (zpk hr) (DE.dv (zdt (zb 1) jh)) (DE.dv zc) (zx _)) (zj (yk (zw (za yr zg ym)))) yx) (zf (yn (i:=2) sc__law_refusal.nd rfl (Or.inl rfl) (xi (DE.dv (DF.de (yw (za yr (za yr (za yr (za yr (za yr (za yr (za yr zg ym) ym) ym) ym) ym) ym) ym)))) (zdu (zb 1) jh) (λ_ _=>rfl))) (zf (xr (yc (zds hr) (zb 2) (DE.dv yr) (zx _)) (zj (yk (zw (za (zt 2) (za (zbx 0 XF.f_many) (za (zbx 0 XF.f_most) zg)))))) yx) (zf (xr (yc (zds hr) (zb 2) (DE.dv yr) (zx _)) (zj (yk (zw (za (zt 2) (za je zg))))) yx) (zj (yk (zad (yc (zds hr) (zb 2) (DE.dv yr) (zx _)) (zw (za (zt 2) (za je zg))) (zw (za (zt 2) zg)))))))))))),?_⟩;walk_at "ds"
  simp only[show va (["TooGreat", "NoBeat"]:List Str) "NoBeat" "NoBeat" = some true by decide +kernel,show va (["TooGreat", "NoBeat"]:List Str) "NoStep" "NoBeat" = some false by decide +kernel,show va (["TooGreat", "NoBeat"]:List Str) "NoNumber" "NoBeat" = some false by decide +kernel,show va (["TooGreat", "NoBeat"]:List Str) "NoLine" "NoBeat" = some false by decide +kernel,show va (["TooGreat", "NoBeat"]:List Str) "NoStory" "NoBeat" = some false by decide +kernel,show va (["TooGreat", "NoBeat"]:List Str) "NoText" "NoBeat" = some false by decide +kernel,show va (["TooGreat", "NoBeat"]:List Str) "TooGreat" "NoBeat" = some false by decide +kernel,show zf8 (["TooGreat", "NoBeat"]:List Str) true "NoBeat" = some true by decide +kernel,show zf8 (["TooGreat", "NoBeat"]:List Str) false "NoBeat" = some false by decide +kernel];walk_at "ds";simp only[show v4 [.bool true,.bool false,.bool false,.bool false,.bool false,.bool false,.bool false]=some [true,false,false,false,false,false,false] by rfl,show List.count true [true,false,false,false,false,false,false]=1 by decide,show List.findIdx? (λx=>x == true) [true,false,false,false,false,false,false]=some 0 by decide];walk_at "ds";refine⟨_,h7 (j:=0) rfl,?_⟩;simp only[show ¬ (Str.ofString "beat" = Str.ofString "great") by decide +kernel];walk_at "ds";exact q
 ·obtain⟨cx_NoBeat,mx_NoBeat,kx_NoBeat⟩:=XF.i_NoBeat;obtain⟨cx_NoStep,mx_NoStep,kx_NoStep⟩:=XF.i_NoStep;obtain⟨cx_NoNumber,mx_NoNumber,kx_NoNumber⟩:=XF.i_NoNumber;obtain⟨cx_NoLine,mx_NoLine,kx_NoLine⟩:=XF.i_NoLine;obtain⟨cx_NoStory,mx_NoStory,kx_NoStory⟩:=XF.i_NoStory;obtain⟨cx_NoText,mx_NoText,kx_NoText⟩:=XF.i_NoText;obtain⟨cx_TooGreat,mx_TooGreat,kx_TooGreat⟩:=XF.i_TooGreat;have kt_0:=XF.t_0;refine⟨_,(zf (yn (i:=1) sc__law_refusal.nd rfl (Or.inl rfl) (DF.de (yw (za (xm 0 (c:=.ref cx_NoBeat) (cv:=.ref cx_NoBeat) (λ_ h=>h) kx_NoBeat rfl B.isinstance boot_isinstance (yv (u:=.ref cx_NoBeat) rfl mx_NoBeat rfl)) (za (xm 0 (c:=.ref cx_NoStep) (cv:=.ref cx_NoStep) (λ_ h=>h) kx_NoStep rfl B.isinstance boot_isinstance (yv (u:=.ref cx_NoStep) rfl mx_NoStep rfl)) (za (xm 0 (c:=.ref cx_NoNumber) (cv:=.ref cx_NoNumber) (λ_ h=>h) kx_NoNumber rfl B.isinstance boot_isinstance (yv (u:=.ref cx_NoNumber) rfl mx_NoNumber rfl)) (za (xm 0 (c:=.ref cx_NoLine) (cv:=.ref cx_NoLine) (λ_ h=>h) kx_NoLine rfl B.isinstance boot_isinstance (yv (u:=.ref cx_NoLine) rfl mx_NoLine rfl)) zg))))))) (zf (yn (i:=1) sc__law_refusal.nd rfl (Or.inl rfl) (zq yh (zb 1) (DE.dv (DF.de (yw (za (xm 0 (c:=.ref cx_NoStory) (cv:=.ref cx_NoStory) (λ_ h=>h) kx_NoStory rfl B.isinstance boot_isinstance (yv (u:=.ref cx_NoStory) rfl mx_NoStory rfl)) (za (xm 0 (c:=.ref cx_NoText) (cv:=.ref cx_NoText) (λ_ h=>h) kx_NoText rfl B.isinstance boot_isinstance (yv (u:=.ref cx_NoText) rfl mx_NoText rfl)) (za (xm 0 (c:=.ref cx_TooGreat) (cv:=.ref cx_TooGreat) (λ_ h=>h) kx_TooGreat rfl B.isinstance boot_isinstance (yv (u:=.ref cx_TooGreat) rfl mx_TooGreat rfl)) zg)))))))) (zf (xr (DWt.dt (zh9 (zeb (jv (DE.dv (xm 0 (c:=.type "ValueError") (cv:=.ty "ValueError") (λ_ h=>h) XF.b_ValueError rfl B.isinstance boot_isinstance (wb (u:=.type "ValueError") rfl B.ValueError (by decide +kernel) rfl))))) (zg0 (jv (DE.dv (zis 0 (cs:=[.type "LookupError",.type "TypeError",.type "ArithmeticError",.type "RuntimeError"]) (cvs:=[.ty "LookupError",.ty "TypeError",.ty "ArithmeticError",.ty "RuntimeError"]) (zcj [(.ty "LookupError",.type "LookupError"),(.ty "TypeError",.type "TypeError"),(.ty "ArithmeticError",.type "ArithmeticError"),(.ty "RuntimeError",.type "RuntimeError")] (by intro p hp u hu;simp only[List.mem_cons,List.not_mem_nil,or_false]at hp;rcases hp with rfl|rfl|rfl|rfl <;> exact hu)) kt_0 rfl B.isinstance boot_isinstance (xv (wb (u:=.type "LookupError") rfl B.LookupError (by decide +kernel) rfl) (xv (wb (u:=.type "TypeError") rfl B.TypeError (by decide +kernel) rfl) (xv (wb (u:=.type "ArithmeticError") rfl B.ArithmeticError (by decide +kernel) rfl) (xv (wb (u:=.type "RuntimeError") rfl B.RuntimeError (by decide +kernel) rfl) zf7)))) (Nat.le_of_ble_eq_true rfl))))))) (zj (yk (zw (za yr zg ym)))) yx) (zf (xr (yc (zpk hr) (DE.dv (zdt (zb 1) jh)) (DE.dv zc) (zx _)) (zj (yk (zw (za yr zg ym)))) yx) (zf (yn (i:=2) sc__law_refusal.nd rfl (Or.inl rfl) (xi (DE.dv (DF.de (yw (za yr (za yr (za yr (za yr (za yr (za yr (za yr zg ym) ym) ym) ym) ym) ym) ym)))) (zdu (zb 1) jh) (λ_ _=>rfl))) (zf (xr (yc (zds hr) (zb 2) (DE.dv yr) (zx _)) (zj (yk (zw (za (zt 2) (za (zbx 0 XF.f_many) (za (zbx 0 XF.f_most) zg)))))) yx) (zf (xr (yc (zds hr) (zb 2) (DE.dv yr) (zx _)) (zj (yk (zw (za (zt 2) (za je zg))))) yx) (zj (yk (zad (yc (zds hr) (zb 2) (DE.dv yr) (zx _)) (zw (za (zt 2) (za je zg))) (zw (za (zt 2) zg)))))))))))),?_⟩;walk_at "ds"
  simp only[show va (["TooGreat", "NoBeat"]:List Str) "NoBeat" "TooGreat" = some false by decide +kernel,show va (["TooGreat", "NoBeat"]:List Str) "NoStep" "TooGreat" = some false by decide +kernel,show va (["TooGreat", "NoBeat"]:List Str) "NoNumber" "TooGreat" = some false by decide +kernel,show va (["TooGreat", "NoBeat"]:List Str) "NoLine" "TooGreat" = some false by decide +kernel,show va (["TooGreat", "NoBeat"]:List Str) "NoStory" "TooGreat" = some false by decide +kernel,show va (["TooGreat", "NoBeat"]:List Str) "NoText" "TooGreat" = some false by decide +kernel,show va (["TooGreat", "NoBeat"]:List Str) "TooGreat" "TooGreat" = some true by decide +kernel,show zf8 (["TooGreat", "NoBeat"]:List Str) true "TooGreat" = some true by decide +kernel,show zf8 (["TooGreat", "NoBeat"]:List Str) false "TooGreat" = some false by decide +kernel];walk_at "ds";simp only[show v4 [.bool false,.bool false,.bool false,.bool false,.bool false,.bool false,.bool true]=some [false,false,false,false,false,false,true] by rfl,show List.count true [false,false,false,false,false,false,true]=1 by decide,show List.findIdx? (λx=>x == true) [false,false,false,false,false,false,true]=some 6 by decide];walk_at "ds";refine⟨_,h7 (j:=6) rfl,?_⟩;have e1:List.lookup ("many" : Str) [(("many" : Str),a),("most",b)]=some a:=by rw[List.lookup_cons,show(("many" : Str) == "many")=true by decide +kernel]
  have e2:List.lookup ("most" : Str) [(("many" : Str),a),("most",b)]=some b:=by rw[List.lookup_cons,show(("most" : Str) == "many")=false by decide +kernel,List.lookup_cons,show(("most" : Str) == "most")=true by decide +kernel]
  walk_at "ds";refine⟨λy e=>by cases e;exact List.mem_cons_self,?_⟩;rw[e1];refine⟨λy e=>by cases e;exact List.mem_cons_self,?_⟩;rw[e2];exact q
end
section
variable {P:Program}{w:World}{K:PySem.W.Frag}{mg:Str->Option Value}{base:Heap}{f:Addr}{fd:FuncData}
theorem zna{s:List (Int×Int)}(c:Cn s)(hl:s.length<=50000)(hm:∀x,Mm s x->0<=x/\x<1000000):Sh (zc4 s) (200 *(89+2)+3) 2:=by
 have hw:Sh (.str "great") 41 0:=⟨by decide +kernel,by decide +kernel,by decide +kernel,by decide +kernel⟩
 have bd:=zta c hm;unfold zc4
 split
 ·refine(Sh.tup (n:=41) (k:=0) (m:=3) (yq hw (yq (Sh.intB (by omega) (by omega)) (yq (Sh.intB (by omega) (by omega)) zbb))) (Nat.le_refl 3)).mono (by decide) (by decide)
 ·refine Sh.tup (n:=89) (k:=1) (m:=200) (λx hx=>?_) (by rw[List.length_map];omega);obtain⟨r,hr,rfl⟩:=List.mem_map.mp hx;have:=bd r hr;exact ze3 (by omega) (by omega) (by omega) (by omega)
theorem zfe(s:List (Int×Int)):∀b,zc4 s ≠ .bool b:=λb e=>by
 unfold zc4 at e
 split at e <;> cases e
theorem zps{a:List (Int×Int)}(o:SOk a){x:Int}(h:Mm a x):0<=x/\x<1000000:=by
 obtain⟨r,hr,h1,h2⟩:=h;have:=o.le r hr;omega
theorem zpt{w m:Int}{a b:List (Int×Int)}(oa:SOk a)(ob:SOk b)(h1:m<=1000000){x:Int}(h:Pw w m a b x):0<=x/\x<1000000:=by
 rcases zm7 h with z |⟨r,hr,z⟩
 ·omega
 ·rcases List.mem_append.mp hr with hr|hr
  ·exact zps oa ⟨r,hr,z⟩
  ·exact zps ob ⟨r,hr,z⟩
theorem zte{s:List (Int×Int)}{b:Int}(o:SOk s)(h:¬ ∃r∈s,1000000<r.2+b):Sh (.tuple ((mvL b s).map pD)) (200 *(89+2)+3) 2:=by
 have ln:=o.ln;refine Sh.tup (n:=89) (k:=1) (m:=200) (λx hx=>?_) (by rw[List.length_map];exact Nat.le_trans (List.length_filterMap_le _ _) ln);obtain⟨r,hr,rfl⟩:=List.mem_map.mp hx;obtain⟨y,hy,e⟩:=List.mem_filterMap.mp hr;have h1:=o.le y hy;have h2:¬ 1000000<y.2+b:=λz=>h ⟨y,hy,z⟩;unfold mvR at e
 split at e
 ·next c=>
  cases e;exact ze3 (by simp only[];omega) (by simp only[];omega) (by simp only[];omega) (by simp only[];omega)
 ·cases e
theorem sh_beat:Sh (.tuple [.str "beat"]) (200 *(89+2)+3) 2:=⟨by decide +kernel,by decide +kernel,by decide +kernel,by decide +kernel⟩
theorem znb{s:List (Int×Int)}{d:Int}(o:SOk s)(h:∀r∈s,r.2<=900000)(h0:0<=d)(h1:d<4):SOk (s.map λr=>(r.1+d,r.2+d)):=by
 refine⟨λr hr=>?_,?_,by rw[List.length_map];exact o.ln⟩
 ·obtain⟨y,hy,rfl⟩:=List.mem_map.mp hr;have:=o.le y hy;have:=h y hy;simp only[];omega
 ·rw[List.pairwise_map];refine o.so.imp λ{x y} h=>?_;simp only[];omega
theorem zr3(B:Blt mg)(F:Fun K "law" "law" zmx f fd)(C__law_cell_at:Cal P w K mg base 1 "_law_cell_at" ["_law_script", "_law_k"] (y0 K qw))(C__law_pen_of:Cal P w K mg base 1 "_law_pen_of" ["_law_cell"] (y0 K k7))(C__law_draw:Cal P w K mg base 2 "_law_draw" ["_law_pen", "_law_many"] (y0 K y9))(C__law_story:Cal P w K mg base 3 "_law_story" ["_law_pen"] (y0 K jk))(C__law_by_edges:Cal P w K mg base 2 "_law_by_edges" ["_law_one", "_law_other", "_law_way", "_law_most"] (y0 K vz))(C__law_told:Cal P w K mg base 5 "_law_told" ["_law_way", "_law_one", "_law_other"] (y0 K zay))(C__law_later:Cal P w K mg base 1 "_law_later" ["_law_story_here", "_law_by"] (y0 K jj))(C__law_moved:Cal P w K mg base 3 "_law_moved" ["_law_pen", "_law_story_here"] (y0 K jn))(C__law_combs:Cal P w K mg base 3 "_law_combs" ["_law_pen"] (y0 K jm))(C__law_teeth:Cal P w K mg base 3 "_law_teeth" ["_law_pen"] (y0 K jl)):FnOk P w K mg base CX0 6 f fd ["_law_script"] (y0 K ze2):=by
 refine F.dok sc_law (λws Q h=>?_) (λcdv A outer s H ws Q E hr h=>?_)
 ·obtain⟨ns,rfl,_⟩:=h;rfl
 obtain⟨ns,rfl,h63,q⟩:=h;refine⟨_,(zf (w4 PassesOwn.never rfl (v6 (zq yh (DE.dv (DF.de (yw (za (z9 C__law_cell_at hr rfl (ya 0 (yz zc yb ym))) zg)))) (DE.dv (DF.de (zq3 0 (zef zc) (zef zc)))))) (zn (i:=1) sc_law.nd rfl (Or.inl rfl)) (zf (zn9 (i:=2) sc_law.nd rfl (Or.inl rfl) (zn7 C__law_pen_of hr rfl (ya 1 yb))) (zf (zem (zw (za (z9 C__law_story hr rfl (ya 2 yb)) (za (z9 C__law_draw hr rfl (ya 2 (yz zc yb ym))) (za (z9 C__law_draw hr rfl (ya 2 (yz zc yb ym))) zg)))) (xk (n:=3) rfl (zp (zn (i:=3) sc_law.nd rfl (Or.inr rfl)) (zp (zn (i:=4) sc_law.nd rfl (Or.inl rfl)) (zp (zn (i:=5) sc_law.nd rfl (Or.inr rfl)) y8))))) (zf (yn (i:=6) sc_law.nd rfl (Or.inl rfl) (zt 3)) (zf (xr (yc zed (zb 4) (DE.dv zc) (zx _)) (zj (yn (i:=6) sc_law.nd rfl (Or.inl rfl) (y3 xx rfl B.tupleT boot_tuple (zr (DE.dv (DF.de (zaf rfl (N':=["_law_begin", "_law_end", "_law_by"]) (capt:=["_law_by"]) (k:=2) (js:=[5]) ⟨rfl,by decide,rfl,by decide,(.cons rfl .nil),rfl,(.cons rfl (Or.inl rfl) rfl (Or.inl rfl) .nil),rfl,by decide⟩ (ja (DE.dv (z9 C__law_story hr rfl (ya 2 yb)))) (λ_ _ _ _=>(xk (n:=2) rfl (zp (zn (i:=0) (show List.Nodup (["_law_begin", "_law_end", "_law_by"]:List Str) by decide +kernel) rfl (Or.inl rfl) (Or.inr rfl)) (zp (zn (i:=1) (show List.Nodup (["_law_begin", "_law_end", "_law_by"]:List Str) by decide +kernel) rfl (Or.inl rfl) (Or.inr rfl)) y8)))) (λ_ _ _ _=>zae) (λ_ _ _ _=>(zw (za (zq yh (zb 0) (zb 2)) (za (zq yh (zb 1) (zb 2)) zg))))))) yg)))) yx) (zf (w4 PassesOwn.never rfl (v6 (DF.de (yw (za (zw (za (zt 3) (za (zt 6) zg))) (za (zw (za (zt 6) (za (zt 3) zg))) (za (z9 C__law_combs hr rfl (ya 2 yb)) (za (z9 C__law_teeth hr rfl (ya 2 yb)) zg)) zqj) zqj)))) (xk (n:=2) rfl (zp (zn (i:=7) sc_law.nd rfl (Or.inl rfl)) (zp (zn (i:=8) sc_law.nd rfl (Or.inl rfl)) y8))) (zj (w4 PassesOwn.never rfl (x8 rfl B.range (za zc zg ym)) (zn (i:=9) sc_law.nd rfl (Or.inl rfl)) (zj (xr (yc (zg2 hr) (DE.dv (vr hr rfl B.repr boot_repr (vo (DE.dn (z9 C__law_told hr rfl (ya 9 (ya 7 (ya 8 yb))))) jb))) (DE.dv (vr hr rfl B.repr boot_repr (vo (DE.dn (z9 C__law_by_edges hr rfl (ya 7 (ya 8 (ya 9 (yz zc yb ym)))))) jb))) (zx _)) (zj (yk jh)) yx))))) (zf (yn (i:=10) sc_law.nd rfl (Or.inl rfl) (zq yh (DE.dv (DF.de (yw (za zc (za zc (za zc (za (z9 C__law_draw hr rfl (ya 2 (yz zc yb ym))) zg) ym) ym) ym)))) (DE.dv (DF.de (zaf rfl (N':=["_law_k", "_law_one"]) (capt:=["_law_one"]) (k:=1) (js:=[3]) ⟨rfl,by decide,rfl,by decide,(.cons rfl .nil),rfl,(.cons rfl (Or.inl rfl) rfl (Or.inl rfl) .nil),rfl,by decide⟩ (DI.w (x8 rfl B.range (za zc zg ym))) (λ_ _ _ _=>(zn (i:=0) (show List.Nodup (["_law_k", "_law_one"]:List Str) by decide +kernel) rfl (Or.inl rfl) (Or.inr rfl))) (λ_ _ _ _=>(v7 (yc (zg2 hr) (zb 1) (DE.dv (zw zg)) (zx _)))) (λ_ _ _ _=>(xi (DE.dv (xi (zb 1) (wz zc) (λ_ _=>rfl))) (zt 0) (λ_ _=>rfl)))))))) (zf (w4 PassesOwn.never rfl (v6 (zt 10)) (zn (i:=11) sc_law.nd rfl (Or.inl rfl)) (zj (xr (yc (zg2 hr) (DE.dv (vr hr rfl B.repr boot_repr (vo (DE.dn (z9 C__law_told hr rfl (yz zc (ya 3 (ya 11 yb)) ym))) jb))) (DE.dv (vr hr rfl B.repr boot_repr (vo (DE.dn (z9 C__law_by_edges hr rfl (ya 3 (yz (zw zg) (yz zc (ya 11 yb) ym) zqj)))) jb))) (zx _)) (zj (yk jh)) yx))) (zj (w4 PassesOwn.never rfl (v6 (z9 C__law_moved hr rfl (ya 2 (ya 3 yb)))) (zn (i:=12) sc_law.nd rfl (Or.inl rfl)) (zj (xr (yc (zg2 hr) (DE.dv (vr hr rfl B.repr boot_repr (vo (DE.dn (z9 C__law_told hr rfl (yz zc (ya 3 (ya 12 yb)) ym))) jb))) (DE.dv (vr hr rfl B.repr boot_repr (vo (DE.dn (z9 C__law_later hr rfl (ya 3 (ya 12 yb)))) jb))) (zx _)) (zj (yk jh)) yx)))))))))))) (zj (yk jh))),?_⟩
 walk_at "ds";refine⟨ns,0,rfl,by decide,λv=>?_⟩;obtain⟨ys,ey,_,hy⟩:=zg5 PyData.int ns (some 1) (some 4);rw[ey,List.length_map];refine⟨by omega,?_⟩;walk_at "ds";refine kh (ds:=(v::ys).map PyData.int) (λσ=>∃(u1 u2 u3 u4 u5 u6 u7 u8 u9 u10 u11 u12:Option W),σ = [some (.scr ns),u1,u2,u3,u4,u5,u6,u7,u8,u9,u10,u11,u12]) ⟨none,none,none,none,none,none,none,none,none,none,none,none,rfl⟩ ?_ ?_
 ·rintro d hd σ N ⟨u1,u2,u3,u4,u5,u6,u7,u8,u9,u10,u11,u12,rfl⟩ k;obtain⟨v,_,rfl⟩:=List.mem_map.mp hd;refine xz (λσ=>σ = [some (.scr ns),some (.val (.int v)),some .pen,u3,u4,u5,u6,u7,u8,u9,u10,u11,u12]) (λN hN=>?_) ?_
  ·walk_at "ds";refine⟨_,rfl,λa b c=>?_⟩;walk_at "ds";exact⟨⟨a,b,c,rfl⟩,hN _ rfl⟩
  rintro σ rfl;refine xz (λσ=>∃(s:List (Int×Int)) (w d:Int),SOk s/\(∀r∈s,r.2<=900000)/\0<=w/\0<=d/\d<4/\σ = [some (.scr ns),some (.val (.int v)),some .pen,some (.val (.tuple (s.map pD))),some (.val (.int w)),some (.val (.int d)),u6,u7,u8,u9,u10,u11,u12]) (λN hN=>?_) ?_
  ·walk_at "ds";refine⟨rfl,λs o h9=>?_⟩;walk_at "ds";refine wu (by first|decide|omega) (by first|decide|omega) λx lx hx=>?_;walk_at "ds";refine wu (by first|decide|omega) (by first|decide|omega) λy ly hy=>?_;walk_at "ds";exact hN _ ⟨s,x,y,o,h9,lx,ly,hy,rfl⟩
  rintro σ ⟨a,w,d,oa,h9,w0,d0,d1,rfl⟩;have la:=oa.ln;refine xz (λσ=>σ = [some (.scr ns),some (.val (.int v)),some .pen,some (.val (.tuple (a.map pD))),some (.val (.int w)),some (.val (.int d)),some (.val (.tuple (a.map pD))),u7,u8,u9,u10,u11,u12]) (λN hN=>?_) ?_
  ·walk_at "ds";exact hN _ rfl
  rintro σ rfl;refine xz (λσ=>∃b:List (Int×Int),SOk b/\σ = [some (.scr ns),some (.val (.int v)),some .pen,some (.val (.tuple (a.map pD))),some (.val (.int w)),some (.val (.int d)),some (.val (.tuple (b.map pD))),u7,u8,u9,u10,u11,u12]) (λN hN=>?_) ?_
  ·walk_at "ds"
   by_cases c:0<w
   ·rw[if_pos c];refine⟨rfl,λs o h8=>?_⟩;walk_at "ds";have ls:=o.ln;rw[List.length_map];refine⟨by omega,zb8 pD (λr=>pD (r.1+d,r.2+d)) (λr hr K hK=>?_) ?_⟩
    ·simp only[pD]at hK ⊢;walk_at "ds";exact hK
    ·exact hN _ ⟨s.map λr=>(r.1+d,r.2+d),znb o h8 d0 d1,by rw[List.map_map];rfl⟩
   ·rw[if_neg c];exact hN _ ⟨a,oa,rfl⟩
  rintro σ ⟨b,ob,rfl⟩;refine xz (λσ=>∃u7 u8 u9:Option W,σ = [some (.scr ns),some (.val (.int v)),some .pen,some (.val (.tuple (a.map pD))),some (.val (.int w)),some (.val (.int d)),some (.val (.tuple (b.map pD))),u7,u8,u9,u10,u11,u12]) (λN hN=>?_) ?_
  ·walk_at "ds";refine⟨rfl,λa1 b1 oa1 ob1=>?_⟩;walk_at "ds";refine⟨rfl,λa2 b2 oa2 ob2=>?_⟩;walk_at "ds";have key:∀d' ∈ [PyData.tuple [.tuple (a.map pD),.tuple (b.map pD)],.tuple [.tuple (b.map pD),.tuple (a.map pD)],.tuple [.tuple (a1.map pD),.tuple (b1.map pD)],.tuple [.tuple (a2.map pD),.tuple (b2.map pD)]],∃x y:List (Int×Int),SOk x/\SOk y/\d'=.tuple [.tuple (x.map pD),.tuple (y.map pD)]:=yq ⟨a,b,oa,ob,rfl⟩ (yq ⟨b,a,ob,oa,rfl⟩ (yq ⟨a1,b1,oa1,ob1,rfl⟩ (yq ⟨a2,b2,oa2,ob2,rfl⟩ zbb)));refine kh (λσ=>∃u7 u8 u9:Option W,σ = [some (.scr ns),some (.val (.int v)),some .pen,some (.val (.tuple (a.map pD))),some (.val (.int w)),some (.val (.int d)),some (.val (.tuple (b.map pD))),u7,u8,u9,u10,u11,u12]) ⟨u7,u8,u9,rfl⟩ ?_ ?_
   ·rintro d' hd' σ N2 ⟨u7,u8,u9,rfl⟩ k2;obtain⟨x,y,ox,oy,rfl⟩:=key d' hd';walk_at "ds";refine⟨by decide,?_⟩;refine kh (λσ=>∃u9:Option W,σ = [some (.scr ns),some (.val (.int v)),some .pen,some (.val (.tuple (a.map pD))),some (.val (.int w)),some (.val (.int d)),some (.val (.tuple (b.map pD))),some (.val (.tuple (x.map pD))),some (.val (.tuple (y.map pD))),u9,u10,u11,u12]) ⟨u9,rfl⟩ ?_ ?_
    ·rintro d2 hd2 σ N3 ⟨u9,rfl⟩ k3;have h2:∀z∈xq 0 (Int.toNat 2),∃i:Int,(i=0\/i=1)/\z=.int i:=yq ⟨0,.inl rfl,rfl⟩ (yq ⟨1,.inr rfl,rfl⟩ zbb);obtain⟨i,hi,rfl⟩:=h2 d2 hd2;walk_at "ds";refine .inl ⟨x,y,i,rfl,hi,ox,oy,λs cs ls hs=>?_⟩;have sh:=zna cs ls λz hz=>zpt ox oy (by decide) ((hs z).mp hz);walk_at "ds";refine⟨sh.can,sh.rep (by decide) (by decide) (zfe s) ?_⟩;walk_at "ds";refine⟨x,y,i,0,rfl,ox,oy,by decide,by decide,λt ct lt ht=>?_⟩;obtain rfl:=ze5 cs ct λz=>(hs z).trans (ht z).symm;walk_at "ds";refine⟨sh.can,sh.rep (by decide) (by decide) (zfe s) ?_⟩;walk_at "ds"
     try rw[if_neg (by simp)]
     exact k3 _ ⟨_,rfl⟩
    ·rintro σ ⟨u9,rfl⟩;exact k2 _ ⟨_,_,_,rfl⟩
   ·rintro σ ⟨u7,u8,u9,rfl⟩;exact hN _ ⟨u7,u8,u9,rfl⟩
  rintro σ ⟨u7,u8,u9,rfl⟩;refine xz (λσ=>∃ms:List Int,(∀m∈ms,0<=m/\m<=1000000)/\σ = [some (.scr ns),some (.val (.int v)),some .pen,some (.val (.tuple (a.map pD))),some (.val (.int w)),some (.val (.int d)),some (.val (.tuple (b.map pD))),u7,u8,u9,some (.val (.list (ms.map PyData.int))),u11,u12]) (λN hN=>?_) ?_
  ·walk_at "ds";refine wu (by first|decide|omega) (by first|decide|omega) λx lx hx=>?_;walk_at "ds";refine⟨by decide,by decide,?_⟩;rw[show xq 0 (Int.toNat 2) = [(0:Int),1].map PyData.int from rfl];rcases List.eq_nil_or_concat a with rfl |⟨t,c,rfl⟩
   ·refine wv PyData.int (λ_=>none) (λi hi K hK=>?_) ?_
    ·walk_at "ds";refine⟨zbh qu,zbh qu,?_⟩;rw[if_neg (by simp[PyData.eqv,PyData.eqvAll])];exact hK
    ·refine⟨by decide,hN _ ⟨[0,1,1000000,x],yq (by decide) (yq (by decide) (yq (by decide) (yq (by omega) zbb))),rfl⟩⟩
   ·rw[List.concat_eq_append]at oa la hN ⊢;have el:=atI_end (t.map pD) (pD c);have bc:=oa.le c (List.mem_append_right _ List.mem_cons_self);have ll:=zbh oa;refine wv PyData.int (λi=>some (.int (if i=0 then c.1 else c.2))) (λi hi K hK=>?_) ?_
    ·simp only[List.map_append,List.map_cons,List.map_nil]at ll ⊢;simp only[pD]at el ll ⊢;walk_at "ds";refine⟨ll,zbh qu,?_⟩;rw[if_pos (by cases t <;> simp[PyData.eqv,PyData.eqvAll])];refine⟨_,el,?_⟩;walk_at "ds";have h2:i=0\/i=1:=by simpa using hi
     rcases h2 with rfl|rfl
     ·exact⟨_,zb9 _ _,hK⟩
     ·exact⟨_,qa _ _ _,hK⟩
    ·refine⟨(by show 4+2<=16777216;decide),hN _ ⟨[0,1,1000000,x,c.1,c.2],yq (by decide) (yq (by decide) (yq (by decide) (yq (by omega) (yq (by omega) (yq (by omega) zbb))))),rfl⟩⟩
  rintro σ ⟨ms,hms,rfl⟩;refine xz (λσ=>∃u11:Option W,σ = [some (.scr ns),some (.val (.int v)),some .pen,some (.val (.tuple (a.map pD))),some (.val (.int w)),some (.val (.int d)),some (.val (.tuple (b.map pD))),u7,u8,u9,some (.val (.list (ms.map PyData.int))),u11,u12]) (λN hN=>?_) ?_
  ·walk_at "ds";refine kh (λσ=>∃u11:Option W,σ = [some (.scr ns),some (.val (.int v)),some .pen,some (.val (.tuple (a.map pD))),some (.val (.int w)),some (.val (.int d)),some (.val (.tuple (b.map pD))),u7,u8,u9,some (.val (.list (ms.map PyData.int))),u11,u12]) ⟨u11,rfl⟩ ?_ ?_
   ·rintro d' hd' σ N2 ⟨u11,rfl⟩ k2;obtain⟨m,hm,rfl⟩:=List.mem_map.mp hd';have m0:=hms m hm;walk_at "ds";refine .inr (.inl ⟨a,m,rfl,oa,λs cs ls hs=>?_⟩);have sh:=zna cs ls λx hx=>zpt (b:=[]) oa qu m0.2 ((hs x).mp hx);walk_at "ds";refine⟨sh.can,sh.rep (by decide) (by decide) (zfe s) ?_⟩;walk_at "ds";refine⟨a,[],2,m,rfl,oa,qu,m0.1,m0.2,λt ct lt ht=>?_⟩;obtain rfl:=ze5 cs ct λx=>(hs x).trans (ht x).symm;walk_at "ds";refine⟨sh.can,sh.rep (by decide) (by decide) (zfe s) ?_⟩;walk_at "ds"
    try rw[if_neg (by simp)]
    exact k2 _ ⟨_,rfl⟩
   ·rintro σ ⟨u11,rfl⟩;exact hN _ ⟨u11,rfl⟩
  rintro σ ⟨u11,rfl⟩;walk_at "ds";refine⟨a,rfl,oa,λbs hbs=>?_⟩;walk_at "ds";refine kh (λσ=>∃u12:Option W,σ = [some (.scr ns),some (.val (.int v)),some .pen,some (.val (.tuple (a.map pD))),some (.val (.int w)),some (.val (.int d)),some (.val (.tuple (b.map pD))),u7,u8,u9,some (.val (.list (ms.map PyData.int))),u11,u12]) ⟨u12,rfl⟩ ?_ ?_
  ·rintro d' hd' σ N2 ⟨u12,rfl⟩ k2;obtain⟨m,hm,rfl⟩:=List.mem_map.mp hd';walk_at "ds"
   by_cases c:∃r∈a,1000000<r.2+m
   ·refine .inr (.inr ⟨a,m,rfl,oa,λ_=>?_,λz=>absurd c z⟩);walk_at "ds";refine⟨sh_beat.can,sh_beat.rep (by decide) (by decide) (λb e=>nomatch e) ?_⟩;walk_at "ds";refine⟨a,m,rfl,oa,λ_=>?_,λz=>absurd c z⟩;walk_at "ds";refine⟨sh_beat.can,sh_beat.rep (by decide) (by decide) (λb e=>nomatch e) ?_⟩;walk_at "ds"
    try rw[if_neg (by simp)]
    exact k2 _ ⟨_,rfl⟩
   ·have sh:=zte oa c;refine .inr (.inr ⟨a,m,rfl,oa,λz=>absurd z c,λ_=>?_⟩);walk_at "ds";refine⟨sh.can,sh.rep (by decide) (by decide) (λb e=>nomatch e) ?_⟩;walk_at "ds";refine⟨a,m,rfl,oa,λz=>absurd z c,λ_=>?_⟩;walk_at "ds";refine⟨sh.can,sh.rep (by decide) (by decide) (λb e=>nomatch e) ?_⟩;walk_at "ds"
    try rw[if_neg (by simp)]
    exact k2 _ ⟨_,rfl⟩
  ·rintro σ ⟨u12,rfl⟩;exact k _ ⟨_,_,_,_,_,_,_,_,_,_,_,_,rfl⟩
 ·rintro σ ⟨u1,u2,u3,u4,u5,u6,u7,u8,u9,u10,u11,u12,rfl⟩;walk_at "ds";exact q
end
theorem zug{us:List Value}(h:us.length=0):us = []:=List.eq_nil_of_length_eq_zero h
theorem ztf{us:List Value}(h:us.length=1):∃a0,us = [a0]:=by
 cases us with
 |nil=>cases h
 |cons a t=>
  obtain rfl:=zug (Nat.succ.inj h);exact⟨a,rfl⟩
theorem ztg{us:List Value}(h:us.length=2):∃a0 a1,us = [a0,a1]:=by
 cases us with
 |nil=>cases h
 |cons a t=>
  obtain⟨a1,rfl⟩:=ztf (Nat.succ.inj h);exact⟨a,a1,rfl⟩
theorem zr4{us:List Value}(h:us.length=3):∃a0 a1 a2,us = [a0,a1,a2]:=by
 cases us with
 |nil=>cases h
 |cons a t=>
  obtain⟨a1,a2,rfl⟩:=ztg (Nat.succ.inj h);exact⟨a,a1,a2,rfl⟩
theorem zuh{us:List Value}(h:us.length=4):∃a0 a1 a2 a3,us = [a0,a1,a2,a3]:=by
 cases us with
 |nil=>cases h
 |cons a t=>
  obtain⟨a1,a2,a3,rfl⟩:=zr4 (Nat.succ.inj h);exact⟨a,a1,a2,a3,rfl⟩
theorem cal(P:Program)(w:World)(base:Heap){K:PySem.W.Frag}{h:Heap}{mg:Str->Option Value}{x:Str}{st:Stmt}{k:Nat}{ps:List Str}{sp:Sp}(X:K.In h)(G:h.Ns mainGlobals mg)(p:ww K x st)(ok:∀(f:Addr) (fd:FuncData),Fun K x x st f fd->FnOk P w K mg base CX0 k f fd ps sp)(hb:∀us:List Value,us.length=ps.length->∀(kV doc pm:Value) (an:Option Addr) (cdv ct:Value),bindArgs (PySem.W.fnOf x x (wc st) (xa st) (ze st) .none kV doc pm an cdv ct) ⟨us,[]⟩=pure (ps.zip us)):za2 P w K mg base k x ps sp :=
 let ⟨f,fd,a,F⟩:=p;⟨f,fd,ok f fd F,F.binds λa b c d e g us hl=>hb us hl a b c d e g,F.kp,PySem.W.mg_of X G a⟩
theorem znc(P:Program)(w:World)(base:Heap){K:PySem.W.Frag}{h:Heap}{mg:Str->Option Value}{x:Str}{st:Stmt}{k:Nat}{ps:List Str}{sp:Sp}(X:K.In h)(G:h.Ns mainGlobals mg)(p:ww K x st)(ok:∀(f:Addr) (fd:FuncData),Fun K x x st f fd->FnOk P w K mg base (CXk P w) k f fd ps sp)(hb:∀us:List Value,us.length=ps.length->∀(kV doc pm:Value) (an:Option Addr) (cdv ct:Value),bindArgs (PySem.W.fnOf x x (wc st) (xa st) (ze st) .none kV doc pm an cdv ct) ⟨us,[]⟩=pure (ps.zip us)):xl P w K mg base k x ps sp :=
 let ⟨f,fd,a,F⟩:=p;⟨f,fd,ok f fd F,F.binds λa b c d e g us hl=>hb us hl a b c d e g,F.kp,PySem.W.mg_of X G a⟩
theorem zui(P:Program)(w:World)(base:Heap){K:PySem.W.Frag}{h:Heap}{mg:Str->Option Value}{x:Str}{st:Stmt}{k:Nat}{ps:List Str}{sp:Sp}(X:K.In h)(G:h.Ns mainGlobals mg)(p:ww K x st)(ok:∀(f:Addr) (fd:FuncData),Fun K x x st f fd->FnH P w K mg base k f fd ps sp)(hb:∀us:List Value,us.length=ps.length->∀(kV doc pm:Value) (an:Option Addr) (cdv ct:Value),bindArgs (PySem.W.fnOf x x (wc st) (xa st) (ze st) .none kV doc pm an cdv ct) ⟨us,[]⟩=pure (ps.zip us)):zap P w K mg base k x ps sp :=
 let ⟨f,fd,a,F⟩:=p;⟨f,fd,ok f fd F,F.binds λa b c d e g us hl=>hb us hl a b c d e g,F.kp,PySem.W.mg_of X G a⟩
theorem zgl{p:List Value->Prop}(h:∀a0,p [a0])(us:List Value)(hl:us.length=1):p us:=by
 obtain⟨a0,rfl⟩:=ztf hl;exact h a0
theorem zff{p:List Value->Prop}(h:∀a0 a1,p [a0,a1])(us:List Value)(hl:us.length=2):p us:=by
 obtain⟨a0,a1,rfl⟩:=ztg hl;exact h a0 a1
theorem zuj{p:List Value->Prop}(h:∀a0 a1 a2,p [a0,a1,a2])(us:List Value)(hl:us.length=3):p us:=by
 obtain⟨a0,a1,a2,rfl⟩:=zr4 hl;exact h a0 a1 a2
theorem zuk{p:List Value->Prop}(h:∀a0 a1 a2 a3,p [a0,a1,a2,a3])(us:List Value)(hl:us.length=4):p us:=by
 obtain⟨a0,a1,a2,a3,rfl⟩:=zuh hl;exact h a0 a1 a2 a3
theorem all_mk{l:PySem.W.OpenLaw}{w:World}{K:PySem.W.Frag}{h:Heap}{mg:Str->Option Value}{fa  : Addr}(X:K.In h)(G:h.Ns mainGlobals mg)(hfa:mg "law" = some (.ref fa))
  (p0:ww K "healed_at" kq)
  (p1:ww K "fitting" zbg)
  (p2:ww K "either" zcr)
  (p3:ww K "both" zhv)
  (p4:ww K "other_way" kr)
  (p5:ww K "later_by" j6)
  (p6:ww K "_law_cell_at" vc)
  (p7:ww K "_law_next" ku)
  (p8:ww K "_law_pen_of" vk)
  (p9:ww K "_law_draw" kx)
  (p10:ww K "_law_story" qh)
  (p11:ww K "_law_refusal" ve)
  (p12:ww K "_law_is_silent" wa)
  (p13:ww K "_law_by_edges" wn)
  (p14:ww K "_law_told" k6)
  (p15:ww K "_law_later" qi)
  (p16:ww K "_law_moved" qj)
  (p17:ww K "_law_combs" qk)
  (p18:ww K "_law_teeth" ql)
  (p19:ww K "law" zmx)
  (z_len:PySem.W.nsIn K mainGlobals "len" = some none)
  (z_range:PySem.W.nsIn K mainGlobals "range" = some none)
  (z_min:PySem.W.nsIn K mainGlobals "min" = some none)
  (z_max:PySem.W.nsIn K mainGlobals "max" = some none)
  (z_repr:PySem.W.nsIn K mainGlobals "repr" = some none)
  (z_isinstance:PySem.W.nsIn K mainGlobals "isinstance" = some none)
  (z_zip:PySem.W.nsIn K mainGlobals "zip" = some none)
  (z_sorted:PySem.W.nsIn K mainGlobals "sorted" = some none)
  (z_tupleT:PySem.W.nsIn K mainGlobals "tuple" = some none)
  (z_intT:PySem.W.nsIn K mainGlobals "int" = some none)
  (z_setT:PySem.W.nsIn K mainGlobals "set" = some none)
  (z_ValueError:PySem.W.nsIn K mainGlobals "ValueError" = some none)
  (z_LookupError:PySem.W.nsIn K mainGlobals "LookupError" = some none)
  (z_TypeError:PySem.W.nsIn K mainGlobals "TypeError" = some none)
  (z_ArithmeticError:PySem.W.nsIn K mainGlobals "ArithmeticError" = some none)
  (z_RuntimeError:PySem.W.nsIn K mainGlobals "RuntimeError" = some none)
  {t_LAST_BEAT:Tok} (y_LAST_BEAT:PySem.W.nsIn K mainGlobals "LAST_BEAT" = some (some (.int 1000000 t_LAST_BEAT)))
  {t_MOST_STRETCHES:Tok} (y_MOST_STRETCHES:PySem.W.nsIn K mainGlobals "MOST_STRETCHES" = some (some (.int 200 t_MOST_STRETCHES)))
  {c_TooGreat:Addr} (xa_TooGreat:PySem.W.nsIn K mainGlobals "TooGreat" = some (some (.ref c_TooGreat)))
  {c_NoBeat:Addr} (xa_NoBeat:PySem.W.nsIn K mainGlobals "NoBeat" = some (some (.ref c_NoBeat)))
  {c_KnockError:Addr} (xa_KnockError:PySem.W.nsIn K mainGlobals "KnockError" = some (some (.ref c_KnockError)))
  {c_NoStep:Addr} (xa_NoStep:PySem.W.nsIn K mainGlobals "NoStep" = some (some (.ref c_NoStep)))
  {c_NoNumber:Addr} (xa_NoNumber:PySem.W.nsIn K mainGlobals "NoNumber" = some (some (.ref c_NoNumber)))
  {c_NoLine:Addr} (xa_NoLine:PySem.W.nsIn K mainGlobals "NoLine" = some (some (.ref c_NoLine)))
  {c_NoStory:Addr} (xa_NoStory:PySem.W.nsIn K mainGlobals "NoStory" = some (some (.ref c_NoStory)))
  {c_NoText:Addr} (xa_NoText:PySem.W.nsIn K mainGlobals "NoText" = some (some (.ref c_NoText)))
  (xd_TooGreat:PySem.W.hasDictIn K c_TooGreat=true)
  (xt_TooGreat:PySem.W.typeIn K (.ref c_TooGreat)=some (.type "type"))
  (xd_NoBeat:PySem.W.hasDictIn K c_NoBeat=true)
  (xt_NoBeat:PySem.W.typeIn K (.ref c_NoBeat)=some (.type "type"))
  (xd_KnockError:PySem.W.hasDictIn K c_KnockError=true)
  (xt_KnockError:PySem.W.typeIn K (.ref c_KnockError)=some (.type "type"))
  (xd_NoStep:PySem.W.hasDictIn K c_NoStep=true)
  (xt_NoStep:PySem.W.typeIn K (.ref c_NoStep)=some (.type "type"))
  (xd_NoNumber:PySem.W.hasDictIn K c_NoNumber=true)
  (xt_NoNumber:PySem.W.typeIn K (.ref c_NoNumber)=some (.type "type"))
  (xd_NoLine:PySem.W.hasDictIn K c_NoLine=true)
  (xt_NoLine:PySem.W.typeIn K (.ref c_NoLine)=some (.type "type"))
  (xd_NoStory:PySem.W.hasDictIn K c_NoStory=true)
  (xt_NoStory:PySem.W.typeIn K (.ref c_NoStory)=some (.type "type"))
  (xd_NoText:PySem.W.hasDictIn K c_NoText=true)
  (xt_NoText:PySem.W.typeIn K (.ref c_NoText)=some (.type "type"))
  (xsp:PySem.W.specialIn K (.builtin "object.__class__") "__get__" = some (some (.builtin "getset_descriptor.__get__")))
  (xtk:PySem.W.takesIn K (.builtin "object.__class__")=some true)
  (xkb:PySem.W.subIn K (.ref c_KnockError) (.type "BaseException")=some true)
  {i_TooGreat:Addr} (xj_TooGreat:PySem.W.findIn K (.ref c_TooGreat) "__init__" = some (some (.ref i_TooGreat)))
  (xe_TooGreat:zcl K c_TooGreat [.type "ValueError",.type "Exception",.type "BaseException",.type "object"] "ValueError.__new__" i_TooGreat=true)
  (xu_TooGreat:PySem.W.findIn K (.ref c_TooGreat) "__setattr__" = some (some (.builtin "object.__setattr__")))
  (xv_TooGreat_many:PySem.W.findIn K (.ref c_TooGreat) "many" = some none)
  (xv_TooGreat_most:PySem.W.findIn K (.ref c_TooGreat) "most" = some none)
  {xod_TooGreat xan_TooGreat:Option Addr}{xsl_TooGreat:Array (Option Value)}{xkV_TooGreat xdc_TooGreat xpm_TooGreat xcd_TooGreat xct_TooGreat:Value} (xl_TooGreat:K.lookup i_TooGreat=some ⟨.type "function",xod_TooGreat,.func (PySem.W.fnOf "__init__" "TooGreat.__init__" (wc (zab wj 0)) (xa (zab wj 0)) (ze (zab wj 0)) .none xkV_TooGreat xdc_TooGreat xpm_TooGreat xan_TooGreat xcd_TooGreat xct_TooGreat),xsl_TooGreat⟩)
  (xw_TooGreat:PySem.W.codeIn K xcd_TooGreat "TooGreat.__init__" = true)
  (xy_TooGreat:PySem.W.keepIn K (.ref i_TooGreat)=true)
  (xg_TooGreat:PySem.W.findIn K (.ref c_TooGreat) "__getattribute__" = some (some (.builtin "BaseException.__getattribute__")))
  (xh_TooGreat:PySem.W.findIn K (.ref c_TooGreat) "__getattr__" = some none)
  (xo_TooGreat:PySem.W.mroIn K c_TooGreat (.type "BaseException")=some true)
  (xf_TooGreat:PySem.W.findIn K (.ref c_TooGreat) "__class__" = some (some (.builtin "object.__class__")))
  (xm_TooGreat:PySem.W.mroIn K c_TooGreat (.type "object")=some true)
  (xs_TooGreat_NoBeat:PySem.W.subIn K (.ref c_TooGreat) (.ref c_NoBeat)=some false)
  (xn_TooGreat_NoBeat:c_TooGreat≠c_NoBeat)
  (xs_TooGreat_KnockError:PySem.W.subIn K (.ref c_TooGreat) (.ref c_KnockError)=some true)
  (xs_TooGreat_NoStep:PySem.W.subIn K (.ref c_TooGreat) (.ref c_NoStep)=some false)
  (xn_TooGreat_NoStep:c_TooGreat≠c_NoStep)
  (xs_TooGreat_NoNumber:PySem.W.subIn K (.ref c_TooGreat) (.ref c_NoNumber)=some false)
  (xn_TooGreat_NoNumber:c_TooGreat≠c_NoNumber)
  (xs_TooGreat_NoLine:PySem.W.subIn K (.ref c_TooGreat) (.ref c_NoLine)=some false)
  (xn_TooGreat_NoLine:c_TooGreat≠c_NoLine)
  (xs_TooGreat_NoStory:PySem.W.subIn K (.ref c_TooGreat) (.ref c_NoStory)=some false)
  (xn_TooGreat_NoStory:c_TooGreat≠c_NoStory)
  (xs_TooGreat_NoText:PySem.W.subIn K (.ref c_TooGreat) (.ref c_NoText)=some false)
  (xn_TooGreat_NoText:c_TooGreat≠c_NoText)
  (xb_TooGreat_ValueError:PySem.W.subIn K (.ref c_TooGreat) (.type "ValueError")=some true)
  (xb_TooGreat_LookupError:PySem.W.subIn K (.ref c_TooGreat) (.type "LookupError")=some false)
  (xb_TooGreat_TypeError:PySem.W.subIn K (.ref c_TooGreat) (.type "TypeError")=some false)
  (xb_TooGreat_ArithmeticError:PySem.W.subIn K (.ref c_TooGreat) (.type "ArithmeticError")=some false)
  (xb_TooGreat_RuntimeError:PySem.W.subIn K (.ref c_TooGreat) (.type "RuntimeError")=some false)
  (xe_NoBeat:PySem.W.excIn K c_NoBeat [.type "ValueError",.type "Exception",.type "BaseException",.type "object"] "ValueError.__new__" = true)
  (xg_NoBeat:PySem.W.findIn K (.ref c_NoBeat) "__getattribute__" = some (some (.builtin "BaseException.__getattribute__")))
  (xh_NoBeat:PySem.W.findIn K (.ref c_NoBeat) "__getattr__" = some none)
  (xo_NoBeat:PySem.W.mroIn K c_NoBeat (.type "BaseException")=some true)
  (xf_NoBeat:PySem.W.findIn K (.ref c_NoBeat) "__class__" = some (some (.builtin "object.__class__")))
  (xm_NoBeat:PySem.W.mroIn K c_NoBeat (.type "object")=some true)
  (xs_NoBeat_TooGreat:PySem.W.subIn K (.ref c_NoBeat) (.ref c_TooGreat)=some false)
  (xn_NoBeat_TooGreat:c_NoBeat≠c_TooGreat)
  (xs_NoBeat_KnockError:PySem.W.subIn K (.ref c_NoBeat) (.ref c_KnockError)=some true)
  (xs_NoBeat_NoStep:PySem.W.subIn K (.ref c_NoBeat) (.ref c_NoStep)=some false)
  (xn_NoBeat_NoStep:c_NoBeat≠c_NoStep)
  (xs_NoBeat_NoNumber:PySem.W.subIn K (.ref c_NoBeat) (.ref c_NoNumber)=some false)
  (xn_NoBeat_NoNumber:c_NoBeat≠c_NoNumber)
  (xs_NoBeat_NoLine:PySem.W.subIn K (.ref c_NoBeat) (.ref c_NoLine)=some false)
  (xn_NoBeat_NoLine:c_NoBeat≠c_NoLine)
  (xs_NoBeat_NoStory:PySem.W.subIn K (.ref c_NoBeat) (.ref c_NoStory)=some false)
  (xn_NoBeat_NoStory:c_NoBeat≠c_NoStory)
  (xs_NoBeat_NoText:PySem.W.subIn K (.ref c_NoBeat) (.ref c_NoText)=some false)
  (xn_NoBeat_NoText:c_NoBeat≠c_NoText)
  (xb_NoBeat_ValueError:PySem.W.subIn K (.ref c_NoBeat) (.type "ValueError")=some true)
  (xb_NoBeat_LookupError:PySem.W.subIn K (.ref c_NoBeat) (.type "LookupError")=some false)
  (xb_NoBeat_TypeError:PySem.W.subIn K (.ref c_NoBeat) (.type "TypeError")=some false)
  (xb_NoBeat_ArithmeticError:PySem.W.subIn K (.ref c_NoBeat) (.type "ArithmeticError")=some false)
  (xb_NoBeat_RuntimeError:PySem.W.subIn K (.ref c_NoBeat) (.type "RuntimeError")=some false)
  : ∃fd:FuncData,(∀(s:Shared) (v:Value),BindsTo s fd ⟨[v],[]⟩ [("_law_script",v)])/\∀base:Heap,K.In base->base.Ns mainGlobals mg->FnOk l.prog w K mg base CX0 6 fa fd ["_law_script"] (y0 K ze2):=by
 obtain⟨f19,fd19,a19,F19⟩:=p19;have e:=hfa.symm.trans (PySem.W.mg_of X G a19)
 cases e;have B:Blt mg:=⟨PySem.W.mg_none_of X G z_len,PySem.W.mg_none_of X G z_range,PySem.W.mg_none_of X G z_min,PySem.W.mg_none_of X G z_max,PySem.W.mg_none_of X G z_repr,PySem.W.mg_none_of X G z_isinstance,PySem.W.mg_none_of X G z_zip,PySem.W.mg_none_of X G z_sorted,PySem.W.mg_none_of X G z_tupleT,PySem.W.mg_none_of X G z_intT,PySem.W.mg_none_of X G z_setT,PySem.W.mg_none_of X G z_ValueError,PySem.W.mg_none_of X G z_LookupError,PySem.W.mg_none_of X G z_TypeError,PySem.W.mg_none_of X G z_ArithmeticError,PySem.W.mg_none_of X G z_RuntimeError⟩
 have G_LAST_BEAT:=PySem.W.mg_of X G y_LAST_BEAT;have G_MOST_STRETCHES:=PySem.W.mg_of X G y_MOST_STRETCHES;have xi_TooGreat:XIs K c_TooGreat:=⟨xg_TooGreat,xh_TooGreat,xo_TooGreat,xd_TooGreat,xf_TooGreat,xsp,xtk,xm_TooGreat⟩
 have xi_NoBeat:XIs K c_NoBeat:=⟨xg_NoBeat,xh_NoBeat,xo_NoBeat,xd_NoBeat,xf_NoBeat,xsp,xtk,xm_NoBeat⟩
 have XF:Xf K mg:=⟨⟨_,PySem.W.mg_of X G xa_NoBeat,xa_NoBeat,xe_NoBeat⟩,⟨_,PySem.W.mg_of X G xa_KnockError,(yi (ziu xa_TooGreat ⟨yu xd_KnockError xt_KnockError xs_TooGreat_KnockError,xkb⟩) (yi (ziu xa_NoBeat ⟨yu xd_KnockError xt_KnockError xs_NoBeat_KnockError,xkb⟩) x9))⟩,((yi (ziu xa_TooGreat ⟨xi_TooGreat,xv_TooGreat_many⟩) x9)),((yi (ziu xa_TooGreat ⟨xi_TooGreat,xv_TooGreat_most⟩) x9)),⟨_,PySem.W.mg_of X G xa_NoBeat,qe (c:=λ_=>True) qf (yi (xh (v:=false) xa_TooGreat (by decide +kernel) ⟨xi_TooGreat,(y4 xn_TooGreat_NoBeat (yu xd_NoBeat xt_NoBeat xs_TooGreat_NoBeat))⟩) (yi (xh (v:=true) xa_NoBeat (by decide +kernel) ⟨xi_NoBeat,zbl⟩) x9))⟩,⟨_,PySem.W.mg_of X G xa_NoStep,qe (c:=λ_=>True) qf (yi (xh (v:=false) xa_TooGreat (by decide +kernel) ⟨xi_TooGreat,(y4 xn_TooGreat_NoStep (yu xd_NoStep xt_NoStep xs_TooGreat_NoStep))⟩) (yi (xh (v:=false) xa_NoBeat (by decide +kernel) ⟨xi_NoBeat,(y4 xn_NoBeat_NoStep (yu xd_NoStep xt_NoStep xs_NoBeat_NoStep))⟩) x9))⟩,⟨_,PySem.W.mg_of X G xa_NoNumber,qe (c:=λ_=>True) qf (yi (xh (v:=false) xa_TooGreat (by decide +kernel) ⟨xi_TooGreat,(y4 xn_TooGreat_NoNumber (yu xd_NoNumber xt_NoNumber xs_TooGreat_NoNumber))⟩) (yi (xh (v:=false) xa_NoBeat (by decide +kernel) ⟨xi_NoBeat,(y4 xn_NoBeat_NoNumber (yu xd_NoNumber xt_NoNumber xs_NoBeat_NoNumber))⟩) x9))⟩,⟨_,PySem.W.mg_of X G xa_NoLine,qe (c:=λ_=>True) qf (yi (xh (v:=false) xa_TooGreat (by decide +kernel) ⟨xi_TooGreat,(y4 xn_TooGreat_NoLine (yu xd_NoLine xt_NoLine xs_TooGreat_NoLine))⟩) (yi (xh (v:=false) xa_NoBeat (by decide +kernel) ⟨xi_NoBeat,(y4 xn_NoBeat_NoLine (yu xd_NoLine xt_NoLine xs_NoBeat_NoLine))⟩) x9))⟩,⟨_,PySem.W.mg_of X G xa_NoStory,qe (c:=λ_=>True) qf (yi (xh (v:=false) xa_TooGreat (by decide +kernel) ⟨xi_TooGreat,(y4 xn_TooGreat_NoStory (yu xd_NoStory xt_NoStory xs_TooGreat_NoStory))⟩) (yi (xh (v:=false) xa_NoBeat (by decide +kernel) ⟨xi_NoBeat,(y4 xn_NoBeat_NoStory (yu xd_NoStory xt_NoStory xs_NoBeat_NoStory))⟩) x9))⟩,⟨_,PySem.W.mg_of X G xa_NoText,qe (c:=λ_=>True) qf (yi (xh (v:=false) xa_TooGreat (by decide +kernel) ⟨xi_TooGreat,(y4 xn_TooGreat_NoText (yu xd_NoText xt_NoText xs_TooGreat_NoText))⟩) (yi (xh (v:=false) xa_NoBeat (by decide +kernel) ⟨xi_NoBeat,(y4 xn_NoBeat_NoText (yu xd_NoText xt_NoText xs_NoBeat_NoText))⟩) x9))⟩,⟨_,PySem.W.mg_of X G xa_TooGreat,qe (c:=λ_=>True) qf (yi (xh (v:=true) xa_TooGreat (by decide +kernel) ⟨xi_TooGreat,zbl⟩) (yi (xh (v:=false) xa_NoBeat (by decide +kernel) ⟨xi_NoBeat,(y4 xn_NoBeat_TooGreat (yu xd_TooGreat xt_TooGreat xs_NoBeat_TooGreat))⟩) x9))⟩,(qe (c:=λ_=>True) zit (yi (xh (v:=true) xa_TooGreat (by decide +kernel) ⟨xi_TooGreat,(xg (by decide +kernel) xb_TooGreat_ValueError)⟩) (yi (xh (v:=true) xa_NoBeat (by decide +kernel) ⟨xi_NoBeat,(xg (by decide +kernel) xb_NoBeat_ValueError)⟩) x9))),(qe (c:=λ_=>True) zit (yi (xh (v:=false) xa_TooGreat (by decide +kernel) ⟨xi_TooGreat,(xw (xg (by decide +kernel) xb_TooGreat_LookupError) (xw (xg (by decide +kernel) xb_TooGreat_TypeError) (xw (xg (by decide +kernel) xb_TooGreat_ArithmeticError) (xw (xg (by decide +kernel) xb_TooGreat_RuntimeError) zci))))⟩) (yi (xh (v:=false) xa_NoBeat (by decide +kernel) ⟨xi_NoBeat,(xw (xg (by decide +kernel) xb_NoBeat_LookupError) (xw (xg (by decide +kernel) xb_NoBeat_TypeError) (xw (xg (by decide +kernel) xb_NoBeat_ArithmeticError) (xw (xg (by decide +kernel) xb_NoBeat_RuntimeError) zci))))⟩) x9)))⟩
 refine⟨fd19,λs v=>zkr F19 (λ_ _ _ _ _ _=>rfl),λbase _ _=>?_⟩;have FI_TooGreat:=zla (st:=zab wj 0) xl_TooGreat xw_TooGreat xy_TooGreat;have XC_TooGreat:zkk K c_TooGreat i_TooGreat ["many", "most"]:=⟨xe_TooGreat,xu_TooGreat,(yi xv_TooGreat_many (yi xv_TooGreat_most x9))⟩
 have R_TooGreat:zmu l.prog w K mg base "TooGreat" ["many", "most"]:=⟨_,_,_,_,_,PySem.W.mg_of X G xa_TooGreat,xa_TooGreat,XC_TooGreat,zms FI_TooGreat zez (FI_TooGreat.binds (ps:=["self", "many", "most"]) λ_ _ _ _ _ _ us hl=>by obtain⟨_,_,_,rfl⟩:=zr4 hl;rfl) XC_TooGreat (by decide) rfl,xl_TooGreat⟩
 have C_healed_at:=cal l.prog w base X G p0 (λ_ _ F=>ze8 B F  ) (zgl λ_ _ _ _ _ _ _=>rfl);have C__law_cell_at:=cal l.prog w base X G p6 (λ_ _ F=>zbs B F  ) (zff λ_ _ _ _ _ _ _ _=>rfl);have C__law_next:=cal l.prog w base X G p7 (λ_ _ F=>ze0 B F  ) (zgl λ_ _ _ _ _ _ _=>rfl);have C__law_pen_of:=cal l.prog w base X G p8 (λ_ _ F=>zcs B F  ) (zgl λ_ _ _ _ _ _ _=>rfl);have C__law_refusal:=zui l.prog w base X G p11 (λ_ _ F=>zbt B F  XF ) (zgl λ_ _ _ _ _ _ _=>rfl);have C__law_is_silent:=cal l.prog w base X G p12 (λ_ _ F=>zaw B F  ) (zff λ_ _ _ _ _ _ _ _=>rfl);have C__law_later:=cal l.prog w base X G p15 (λ_ _ F=>zc3 B F  ) (zff λ_ _ _ _ _ _ _ _=>rfl);have C_later_by:=znc l.prog w base X G p5 (λ_ _ F=>zgj B F G_LAST_BEAT XF C_healed_at) (zff λ_ _ _ _ _ _ _ _=>rfl);have C__law_draw:=cal l.prog w base X G p9 (λ_ _ F=>ze1 B F  C__law_next) (zff λ_ _ _ _ _ _ _ _=>rfl);have C__law_by_edges:=cal l.prog w base X G p13 (λ_ _ F=>zbi B F  C__law_is_silent) (zuk λ_ _ _ _ _ _ _ _ _ _=>rfl);have C_fitting:=znc l.prog w base X G p1 (λ_ _ F=>zhx B F G_MOST_STRETCHES XF R_TooGreat ) (zgl λ_ _ _ _ _ _ _=>rfl);have C__law_story:=cal l.prog w base X G p10 (λ_ _ F=>zc5 B F  C__law_draw) (zgl λ_ _ _ _ _ _ _=>rfl);have C__law_moved:=cal l.prog w base X G p16 (λ_ _ F=>zc8 B F  C__law_draw) (zff λ_ _ _ _ _ _ _ _=>rfl);have C__law_combs:=cal l.prog w base X G p17 (λ_ _ F=>zc7 B F  C__law_draw) (zgl λ_ _ _ _ _ _ _=>rfl);have C__law_teeth:=cal l.prog w base X G p18 (λ_ _ F=>zc6 B F  C__law_draw) (zgl λ_ _ _ _ _ _ _=>rfl);have C_either:=znc l.prog w base X G p2 (λ_ _ F=>zks B F  XF C_fitting) (zff λ_ _ _ _ _ _ _ _=>rfl);have C_both:=znc l.prog w base X G p3 (λ_ _ F=>zo0 B F  XF C_fitting) (zff λ_ _ _ _ _ _ _ _=>rfl);have C_other_way:=znc l.prog w base X G p4 (λ_ _ F=>zfa B F  XF C_fitting) (zff λ_ _ _ _ _ _ _ _=>rfl);have C__law_told:=cal l.prog w base X G p14 (λ_ _ F=>zfd B F  XF C_either C_both C_other_way C_later_by C__law_refusal) (zuj λ_ _ _ _ _ _ _ _ _=>rfl);exact zr3 B F19  C__law_cell_at C__law_pen_of C__law_draw C__law_story C__law_by_edges C__law_told C__law_later C__law_moved C__law_combs C__law_teeth
theorem walk{l:PySem.W.OpenLaw}{q:Program}{loose:List Str}{XP:(Str->Option Value)->Heap->Prop}{YP:World->Heap->Prop}{d:DefRec}{K:Params->PySem.W.Frag}(hn:l.most=some 63)(hdf:d.params.defaults = [])
  (hY:∀(w:World) (h:Heap),YP w h->(K w.params).In h)
  (F:∀(w:World) (mg:Str->Option Value) (fa:Addr) (h:Heap),(K w.params).In h->h.Ns mainGlobals mg->mg d.name=some (.ref fa) ->
   ∃fd:FuncData,(∀(s:Shared) (u:Value),BindsTo s fd ⟨[u],[]⟩ [("_law_script",u)])/\∀base:Heap,(K w.params).In base->base.Ns mainGlobals mg->FnOk l.prog w (K w.params) mg base CX0 6 fa fd ["_law_script"] (y0 (K w.params) ze2)) :
  PySem.W.WalkO q loose XP YP l.row.toRowW d [] (λf vs=>PySem.call f vs) :=
 L2.walk_of (n:=63) (k:=6) (x := "_law_script") (CX:=λ_=>CX0) (sp:=λw=>y0 (K w.params) ze2) hn (by decide) hdf ⟨rfl,by decide,by decide,rfl⟩ hY F (λ_ _ a ns hl _ hS=>⟨[.scr ns],λr=>r=.val (.bool true),.cons ⟨a,rfl,hS⟩ .nil,⟨ns,rfl,hl,rfl⟩,λv H' r _ rp e=>by subst e;cases rp;rfl⟩) λ_ _ _ _ _ z=>z
end My
namespace PySem.W.Fast
def tw5308528605834861221:=()
def tw14880720487471950951:=()
def tw12480284038534267459:=()
def tw11999874228859316980:=()
def tw7497443254932582155:=()
def tw7280183667421475887:=()
def tw14778570733800053400:=()
def tw4105588588610183016:=()
def tw13796936640107149747:=()
def tw5080869379086256667:=()
def tw15333350797706157452:=()
def tw6145000795548877966:=()
def tw15553379900938361254:=()
def tw4483037451863205794:=()
def tw2864044118924057484:=()
def tw17054494799954686852:=()
def tw18333934122928865944:=()
def tw11857418281826251122:=()
def tw15509425389076766780:=()
def tw10141445638139121060:=()
def tw15575481850461627409:=()
def tw5713639083578721044:=()
def tw4545276641918470788:=()
def tw11702033211220727943:=()
def tw10106539352881590685:=()
def tw16676516654610529835:=()
def tw5283226686081719290:=()
def tw5759076254664060497:=()
def tw9958308920074832392:=()
def tw13949127774016774588:=()
def tw13969270030023968543:=()
def tw5379100116677356754:=()
def tw10979392559565013397:=()
def tw11131173914664186884:=()
def tw13810971288325367277:=()
def tw11113976023640635705:=()
def tw17267431556402084408:=()
def tw14371174359470974864:=()
def tw6959819081110214757:=()
def tw17668351101717329359:=()
def tw17224827614951011837:=()
def tw7843529890548487261:=()
def tw13068697499101639173:=()
def tw13908052776687369911:=()
def tw4049166655515789444:=()
def tw13873661100831586656:=()
def tw12450993309145540702:=()
def tw4702126759059845565:=()
def tw8446485643261980584:=()
def tw16145272518110117301:=()
def tw10839664646034717664:=()
def tw11846637865452044932:=()
def tw8639781788364201599:=()
def tw18211606478329142799:=()
def tw4761617113590857013:=()
def tw5687230047859563962:=()
def tw13750394747461866193:=()
def tw10783482505007161738:=()
def tw16281995197645265551:=()
def tw2668686279471505901:=()
def tw9302647879065120850:=()
def tw12616619788963668771:=()
def tw10165619000987588143:=()
def tw5895277557764830347:=()
def tw7792594811185283125:=()
def tw3157070284924198905:=()
def tw2878911651661770965:=()
def tw17531465476550048550:=()
def tw5212367576690972669:=()
def tw215945920431781870:=()
def tw12117317753766704116:=()
def tw16001123070455591120:=()
def tw16877819875778328083:=()
def tw2320262591391801746:=()
def tw18361090207577315749:=()
def tw17253987750125945126:=()
def tw14452650848580822686:=()
def tw5175371850292293298:=()
def tw13663862192351175837:=()
def tw3596268074594711531:=()
def tw5202954731363020761:=()
def tw10506450008657228967:=()
def tw12286487811822464995:=()
end PySem.W.Fast
open PySem PySem.W PyProof.Rows
local macro_rules|`(tactic| walk_at "fn")=>`(tactic|(refine' My.fn_at ?a ?l ?c ?k;(case a=>k_is);(case l=>k_is);(case c=>k_is);(case k=>k_is)))
set_option maxRecDepth 100000 in
set_option maxHeartbeats 0 in
theorem PySem.Challenge.cw_knockpurse_k14_stories_put_together_holds : PySem.Challenge.rw_knockpurse_k14_stories_put_together.Holds := by
 w_on;o_law;k_head;(case hw=>w_witness2)
 k_fill
 refine My.walk (l:=PySem.Challenge.rw_knockpurse_k14_stories_put_together) rfl rfl (λw h Y=>PySem.W.kIn_of Y) ?F
 case F=>
  intro w mg fa h KX G hmg
  refine' My.all_mk KX G hmg ?p0 ?p1 ?p2 ?p3 ?p4 ?p5 ?p6 ?p7 ?p8 ?p9 ?p10 ?p11 ?p12 ?p13 ?p14 ?p15 ?p16 ?p17 ?p18 ?p19 ?z_len ?z_range ?z_min ?z_max ?z_repr ?z_isinstance ?z_zip ?z_sorted ?z_tupleT ?z_intT ?z_setT ?z_ValueError ?z_LookupError ?z_TypeError ?z_ArithmeticError ?z_RuntimeError ?y_LAST_BEAT ?y_MOST_STRETCHES ?xa_TooGreat ?xa_NoBeat ?xa_KnockError ?xa_NoStep ?xa_NoNumber ?xa_NoLine ?xa_NoStory ?xa_NoText ?xd_TooGreat ?xt_TooGreat ?xd_NoBeat ?xt_NoBeat ?xd_KnockError ?xt_KnockError ?xd_NoStep ?xt_NoStep ?xd_NoNumber ?xt_NoNumber ?xd_NoLine ?xt_NoLine ?xd_NoStory ?xt_NoStory ?xd_NoText ?xt_NoText ?xsp ?xtk ?xkb ?xj_TooGreat ?xe_TooGreat ?xu_TooGreat ?xv_TooGreat_many ?xv_TooGreat_most ?xl_TooGreat ?xw_TooGreat ?xy_TooGreat ?xg_TooGreat ?xh_TooGreat ?xo_TooGreat ?xf_TooGreat ?xm_TooGreat ?xs_TooGreat_NoBeat ?xn_TooGreat_NoBeat ?xs_TooGreat_KnockError ?xs_TooGreat_NoStep ?xn_TooGreat_NoStep ?xs_TooGreat_NoNumber ?xn_TooGreat_NoNumber ?xs_TooGreat_NoLine ?xn_TooGreat_NoLine ?xs_TooGreat_NoStory ?xn_TooGreat_NoStory ?xs_TooGreat_NoText ?xn_TooGreat_NoText ?xb_TooGreat_ValueError ?xb_TooGreat_LookupError ?xb_TooGreat_TypeError ?xb_TooGreat_ArithmeticError ?xb_TooGreat_RuntimeError ?xe_NoBeat ?xg_NoBeat ?xh_NoBeat ?xo_NoBeat ?xf_NoBeat ?xm_NoBeat ?xs_NoBeat_TooGreat ?xn_NoBeat_TooGreat ?xs_NoBeat_KnockError ?xs_NoBeat_NoStep ?xn_NoBeat_NoStep ?xs_NoBeat_NoNumber ?xn_NoBeat_NoNumber ?xs_NoBeat_NoLine ?xn_NoBeat_NoLine ?xs_NoBeat_NoStory ?xn_NoBeat_NoStory ?xs_NoBeat_NoText ?xn_NoBeat_NoText ?xb_NoBeat_ValueError ?xb_NoBeat_LookupError ?xb_NoBeat_TypeError ?xb_NoBeat_ArithmeticError ?xb_NoBeat_RuntimeError
  (case p0=>walk_at "fn")
  (case p1=>walk_at "fn")
  (case p2=>walk_at "fn")
  (case p3=>walk_at "fn")
  (case p4=>walk_at "fn")
  (case p5=>walk_at "fn")
  (case p6=>walk_at "fn")
  (case p7=>walk_at "fn")
  (case p8=>walk_at "fn")
  (case p9=>walk_at "fn")
  (case p10=>walk_at "fn")
  (case p11=>walk_at "fn")
  (case p12=>walk_at "fn")
  (case p13=>walk_at "fn")
  (case p14=>walk_at "fn")
  (case p15=>walk_at "fn")
  (case p16=>walk_at "fn")
  (case p17=>walk_at "fn")
  (case p18=>walk_at "fn")
  (case p19=>walk_at "fn")
  (case z_len=>k_is)
  (case z_range=>k_is)
  (case z_min=>k_is)
  (case z_max=>k_is)
  (case z_repr=>k_is)
  (case z_isinstance=>k_is)
  (case z_zip=>k_is)
  (case z_sorted=>k_is)
  (case z_tupleT=>k_is)
  (case z_intT=>k_is)
  (case z_setT=>k_is)
  (case z_ValueError=>k_is)
  (case z_LookupError=>k_is)
  (case z_TypeError=>k_is)
  (case z_ArithmeticError=>k_is)
  (case z_RuntimeError=>k_is)
  (case y_LAST_BEAT=>k_is)
  (case y_MOST_STRETCHES=>k_is)
  (case xa_TooGreat=>k_is)
  (case xa_NoBeat=>k_is)
  (case xa_KnockError=>k_is)
  (case xa_NoStep=>k_is)
  (case xa_NoNumber=>k_is)
  (case xa_NoLine=>k_is)
  (case xa_NoStory=>k_is)
  (case xa_NoText=>k_is)
  (case xd_TooGreat=>k_is)
  (case xt_TooGreat=>k_is)
  (case xd_NoBeat=>k_is)
  (case xt_NoBeat=>k_is)
  (case xd_KnockError=>k_is)
  (case xt_KnockError=>k_is)
  (case xd_NoStep=>k_is)
  (case xt_NoStep=>k_is)
  (case xd_NoNumber=>k_is)
  (case xt_NoNumber=>k_is)
  (case xd_NoLine=>k_is)
  (case xt_NoLine=>k_is)
  (case xd_NoStory=>k_is)
  (case xt_NoStory=>k_is)
  (case xd_NoText=>k_is)
  (case xt_NoText=>k_is)
  (case xsp=>k_is)
  (case xtk=>k_is)
  (case xkb=>k_is)
  (case xj_TooGreat=>k_is)
  (case xe_TooGreat=>kernel_rfl)
  (case xu_TooGreat=>k_is)
  (case xv_TooGreat_many=>k_is)
  (case xv_TooGreat_most=>k_is)
  (case xl_TooGreat=>k_is)
  (case xw_TooGreat=>k_is)
  (case xy_TooGreat=>k_is)
  (case xg_TooGreat=>k_is)
  (case xh_TooGreat=>k_is)
  (case xo_TooGreat=>k_is)
  (case xf_TooGreat=>k_is)
  (case xm_TooGreat=>k_is)
  (case xs_TooGreat_NoBeat=>k_is)
  (case xn_TooGreat_NoBeat=>decide)
  (case xs_TooGreat_KnockError=>k_is)
  (case xs_TooGreat_NoStep=>k_is)
  (case xn_TooGreat_NoStep=>decide)
  (case xs_TooGreat_NoNumber=>k_is)
  (case xn_TooGreat_NoNumber=>decide)
  (case xs_TooGreat_NoLine=>k_is)
  (case xn_TooGreat_NoLine=>decide)
  (case xs_TooGreat_NoStory=>k_is)
  (case xn_TooGreat_NoStory=>decide)
  (case xs_TooGreat_NoText=>k_is)
  (case xn_TooGreat_NoText=>decide)
  (case xb_TooGreat_ValueError=>k_is)
  (case xb_TooGreat_LookupError=>k_is)
  (case xb_TooGreat_TypeError=>k_is)
  (case xb_TooGreat_ArithmeticError=>k_is)
  (case xb_TooGreat_RuntimeError=>k_is)
  (case xe_NoBeat=>k_exc)
  (case xg_NoBeat=>k_is)
  (case xh_NoBeat=>k_is)
  (case xo_NoBeat=>k_is)
  (case xf_NoBeat=>k_is)
  (case xm_NoBeat=>k_is)
  (case xs_NoBeat_TooGreat=>k_is)
  (case xn_NoBeat_TooGreat=>decide)
  (case xs_NoBeat_KnockError=>k_is)
  (case xs_NoBeat_NoStep=>k_is)
  (case xn_NoBeat_NoStep=>decide)
  (case xs_NoBeat_NoNumber=>k_is)
  (case xn_NoBeat_NoNumber=>decide)
  (case xs_NoBeat_NoLine=>k_is)
  (case xn_NoBeat_NoLine=>decide)
  (case xs_NoBeat_NoStory=>k_is)
  (case xn_NoBeat_NoStory=>decide)
  (case xs_NoBeat_NoText=>k_is)
  (case xn_NoBeat_NoText=>decide)
  (case xb_NoBeat_ValueError=>k_is)
  (case xb_NoBeat_LookupError=>k_is)
  (case xb_NoBeat_TypeError=>k_is)
  (case xb_NoBeat_ArithmeticError=>k_is)
  (case xb_NoBeat_RuntimeError=>k_is)
