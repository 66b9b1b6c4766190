import PyProof.Rows.All
import PyProof.StrReplace2
import Wide.All
import OpenK.AllK
import Wide.FinOn
import Lean
import PyProof.EqAt
import PyProof.EqKinds
import PyProof.TupleCall
import PyProof.ListMulRoad
import PyProof.Lay0
import PyProof.Rows.EqDataRows
import PyProof.ReprRoads
import PyProof.Rows.MinMaxN
import PyProof.ReprLen
import PyProof.FitsInt
import PyProof.MinMaxWalk
import KE.KRevSl
import KE.KRevIter
import PyProof.ListRange
import PyProof.Sched
import PyProof.Rows.SortShellK
import PyProof.Rows.SortRunK
import PyProof.Rows.SortRuns
import PyProof.TupleOfSeq
import PyProof.RulesAs
import OpenK.KDescr
import OpenK.KOwn
import KE.KIsNot
import KE.KIsAll
import PyProof.Rows.SetFrom
import PyProof.WalksMore
import PyProof.CollectWalk
import KE.KLam
import KE.KMinKey
import KE.KSortKey
import KE.KDictList
import KE.KDictOf
import PyProof.Rows.Range3
import PyProof.FactsAll.range
import PyProof.Rows.StrLen
import PyProof.Rows.StrCase
import PyProof.StrBlock2
import PyProof.Rows.StrRules
import PyProof.Rows.RegReprOcc
import PyProof.AttrMissSeq
import PyProof.DictWalks
import KE.KEqDict
import PyProof.ExcInit
import PyProof.ExcClass3
import PyProof.InstStoreFacts
import PySem.Challenge.RW_knockpurse_k17_whole_stories
set_option Elab.async false
set_option linter.all false
set_option maxRecDepth 100000
namespace L2
open PySem PySem.Spec PyProof.Rows
abbrev Key:=Sum Int Str
def zqq:Key->Value->Bool
 |.inl k,v=>Value.isInt k v
 |.inr x,v=>Value.isStrOf x v
def zv4(w:World):Key->Int
 |.inl k=>hashInt k
 |.inr x=>hashStr w x
theorem xl:∀{k:Key}{v:Value},zqq k v=true->(∃i t,k=Sum.inl i/\v=Value.int i t)\/(∃x t,k=Sum.inr x/\v=Value.str x t)
 |.inl i,v,h=>by
  obtain⟨t,e⟩:=Value.isInt_shape (k:=i) (v:=v) h;exact .inl ⟨i,t,rfl,e⟩
 |.inr x,v,h=>by
  obtain⟨t,e⟩:=Value.isStrOf_shape (x:=x) (v:=v) h;exact .inr ⟨x,t,rfl,e⟩
theorem zro(a b:Int):decide ((Sum.inl a:Key)=Sum.inl b)=(a == b):=by
 by_cases e:a=b
 ·subst e;simp
 ·have h:¬ (Sum.inl a:Key)=Sum.inl b:=λq=>e (Sum.inl.inj q);rw[decide_eq_false h];exact(beq_eq_false_iff_ne.mpr e).symm
theorem zrp(a b:Str):decide ((Sum.inr a:Key)=Sum.inr b)=decide (a=b):=by
 by_cases e:a=b
 ·subst e;simp
 ·have h:¬ (Sum.inr a:Key)=Sum.inr b:=λq=>e (Sum.inr.inj q);rw[decide_eq_false h,decide_eq_false e]
theorem zrq(a:Int)(b:Str):decide ((Sum.inl a:Key)=Sum.inr b)=false:=decide_eq_false (λq=>nomatch q)
theorem zrr(a:Str)(b:Int):decide ((Sum.inr a:Key)=Sum.inl b)=false:=decide_eq_false (λq=>nomatch q)
def ze2(prog:Program)(w:World):PySem.KeyKind prog w Key where
 is:=zqq
 hash:=zv4 w
 inj:=λv a b ha hb=>by
  rcases xl ha with⟨i,t,rfl,rfl⟩ |⟨x,t,rfl,rfl⟩
  ·rcases xl hb with⟨j,u,rfl,e⟩ |⟨y,u,rfl,e⟩
   ·injection e with e1 _;rw[e1]
   ·exact nomatch e
  ·rcases xl hb with⟨j,u,rfl,e⟩ |⟨y,u,rfl,e⟩
   ·exact nomatch e
   ·injection e with e1 _;rw[e1]
 byValue:=λk v h=>by
  rcases xl h with⟨i,t,rfl,rfl⟩ |⟨x,t,rfl,rfl⟩ <;> rfl
 pyHash:=λhv h=>by
  rcases xl hv with⟨i,t,rfl,rfl⟩ |⟨x,t,rfl,rfl⟩
  ·exact wpAny_pyHash_int h
  ·exact wpAny_pyHash_str h
 eqBool:=λhu hv h=>by
  rcases xl hu with⟨i,t,rfl,rfl⟩ |⟨x,t,rfl,rfl⟩
  ·rcases xl hv with⟨j,u,rfl,rfl⟩ |⟨y,u,rfl,rfl⟩
   ·rw[zro]at h;exact wpAny_eqBool_int h
   ·rw[zrq]at h;exact SeqAt.EqAt.int_str i t y u _ _ _ _ h
  ·rcases xl hv with⟨j,u,rfl,rfl⟩ |⟨y,u,rfl,rfl⟩
   ·rw[zrr]at h;exact SeqAt.EqAt.str_int x t j u _ _ _ _ h
   ·rw[zrp]at h;exact wpAny_eqBool_str h
 «strs»:=λk x t v h=>by
  rcases xl h with⟨i,u,rfl,e⟩ |⟨y,u,rfl,e⟩
  ·exact nomatch e
  ·injection e with e1 _
   subst e1
   cases v <;> rfl
inductive V where
 |non|bl (b:Bool)|int (i:Int)|str (x:Str)|byt (b:Array UInt8)|flt (b:UInt64)|ref (a:Addr)|ty (n:String)
 deriving DecidableEq
def RelV:V->Value->Prop
 |.non,u=>u=Value.none
 |.bl b,u=>u=Value.bool b
 |.int i,u=>∃t,u=Value.int i t
 |.str x,u=>∃t,u=Value.str x t
 |.byt b,u=>∃t,u=Value.bytes b t
 |.flt b,u=>∃t,u=Value.float b t
 |.ref a,u=>u=Value.ref a
 |.ty n,u=>u=Value.type n
abbrev Vals:List V->List Value->Prop:=Paired RelV
theorem Vals.length{xs:List V}{us:List Value}(r:Vals xs us):xs.length=us.length:=Paired.length r
theorem Vals.get:∀{xs:List V}{us:List Value}{i:Nat}{x:V},Vals xs us->xs[i]?=some x->∃u,us[i]?=some u/\RelV x u
 |_,_,_,_,.nil,e=>by simp at e
 |_,_,0,_,.cons r _,e=>by simp at e;subst e;exact⟨_,rfl,r⟩
 |_,_,i+1,x,.cons _ t,e=>by
  obtain⟨u,h1,h2⟩:=Vals.get (i:=i) (x:=x) t (by simpa using e);exact⟨u,by simpa using h1,h2⟩
theorem Vals.set{x:V}{u:Value}(r:RelV x u):∀{xs:List V}{us:List Value} (i:Nat),Vals xs us->Vals (xs.set i x) (us.set i u)
 |_,_,_,.nil=>.nil
 |_,_,0,.cons _ t=>.cons r t
 |_,_,i+1,.cons q t=>.cons q (Vals.set r i t)
theorem Vals.append:∀{xs ys:List V}{us ws:List Value},Vals xs us->Vals ys ws->Vals (xs++ys) (us++ws)
 |_,_,_,_,.nil,s=>s
 |_,_,_,_,.cons r t,s=>.cons r (Vals.append t s)
theorem Vals.take:∀{xs:List V}{us:List Value} (n:Nat),Vals xs us->Vals (xs.take n) (us.take n)
 |_,_,0,_=>.nil
 |_,_,_+1,.nil=>.nil
 |_,_,n+1,.cons r t=>.cons r (Vals.take n t)
theorem Vals.drop:∀{xs:List V}{us:List Value} (n:Nat),Vals xs us->Vals (xs.drop n) (us.drop n)
 |_,_,0,r=>r
 |_,_,_+1,.nil=>.nil
 |_,_,n+1,.cons _ t=>Vals.drop n t
def RelO:Option V->Option Value->Prop
 |some v,some u=>RelV v u
 |none,none=>True
 |_,_=>False
def KV{κ:Type}:List (κ×V)->List (κ×Value)->Prop:=Paired λ(p:κ×V) (q:κ×Value)=>p.1=q.1/\RelV p.2 q.2
def kV:Key->V
 |.inl i=>.int i
 |.inr x=>.str x
inductive HO where
  |lst (xs:List V)
  |tup (xs:List V)
  |dK (kvs:List (Key×V))|dT (kvs:List (List Key×V))
  |set (S:Int->Bool) (n:Nat)
  |ins (C dx:Addr) (fs:List (Str×V))
  |own (x:Addr)
  |xd (fs:List (Str×V))
  |met (f x:Addr)
  |rng (lo hi:Int)
  |frz (o:Obj) (u:HO)
  |tbl (ps:Array Value)
  |ext (φ:Heap->Prop)
abbrev Hp:=Addr->Option HO
def upd(H:Hp)(a:Addr)(o:HO):Hp:=λb=>if b=a then some o else H b
theorem zx{H:Hp}{a:Addr}{o:HO}:upd H a o a=some o:=by unfold upd;rw[if_pos rfl]
theorem zw{H:Hp}{a b:Addr}{o:HO}(h:b≠a):upd H a o b=H b:=by unfold upd;rw[if_neg h]
theorem zjo{H:Hp}{a b:Addr}{o u:HO}(h:H a=some o)(h':H b=some u)(d:o≠u):a≠b:=by
 intro e;subst e;rw[h]at h';exact d (Option.some.inj h')
theorem yi{H:Hp}{a b:Addr}{o:HO}(h:H a=some o)(h':H b=none):a≠b:=by
 intro e;subst e;rw[h]at h';cases h'
def TupD(h:Heap)(a:Addr)(items:Array Value):Prop:=∃o,h.get? a=some o/\o.cls=.type "tuple" /\(∃n,o.data=.seq items n)/\o.dict=none
theorem TupD.isTup{h:Heap}{a:Addr}{items:Array Value}(x:TupD h a items):IsTup h a items:=let ⟨o,e,c,d,_⟩:=x;⟨o,e,c,d⟩
theorem TupD.lt{h:Heap}{a:Addr}{items:Array Value}(x:TupD h a items):a<h.objs.size:=x.isTup.lt
theorem TupD.new(h:Heap)(items:Array Value):TupD (h.push { cls:=.type "tuple",data:=.seq items }) h.objs.size items:=⟨_,Heap.get?_push_size _ rfl,rfl,⟨_,rfl⟩,rfl⟩
def zjp(oc:Obj)(q:Str):Prop:=∃vs t,oc.data=.fields vs/\vs[1]?=some (.str q t)
def zgm(H:Hp)(h:Heap)(a:Addr)(lab:Array Value):Prop:=∃(ps:Array Value) (q:Str) (t:Tok),lab = #[.str q t]/\h.get? a=some { cls:=.none,data:=.fields ps }/\TriplesOk ps.toList /\
 ∀pos cv,codeAmong pos ps.toList=some cv->∃c' oc u,cv=.ref c'/\H c'=some (.frz oc u)/\zjp oc q
section
variable (P:Program)(w:World)
def ObjOk(H:Hp)(h:Heap)(a:Addr):HO->Prop
 |.lst xs=>xs.length<=sizeLine/\∃(its:List Value) (n:Nat),Vals xs its/\h.get? a=some { cls:=.type "list",data:=.seq its.toArray n }
 |.tup xs=>xs.length<=sizeLine/\∃its:List Value,Vals xs its/\TupD h a its.toArray
 |.dK kvs=>kvs.length<=sizeLine/\(a == sysModules)=false/\∃vs,KV kvs vs/\h.DictOf (ze2 P w) a vs
 |.dT kvs=>kvs.length<=sizeLine/\(a == sysModules)=false/\∃xs:List (List Key×Addr×Value),
   Paired (λ(p:List Key×V) (q:List Key×Addr×Value)=>p.1=q.1/\H q.2.1=some (.tup (p.1.map kV))/\RelV p.2 q.2.2) kvs xs /\
   ∃o es ep,h.get? a=some o/\o.ExactDict/\o.data=.dict es ep/\es.toList=xs.map (entryOfKey (tupleKind (ze2 P w)))/\(xs.map (·.1)).Nodup
 |.set S n=>h.SetOf (intKind P w) a S n
 |.ins C dx fs=>H dx=some (.own a)/\fs.length<=1000/\dx≠a/\h.get? a=some (PySem.W.instObj C dx) /\
   ∃mA,h.Ns1 dx mA/\(∀f,RelO (fs.lookup f) (mA f))/\PySem.Within mA (fs.map (·.1))
 |.own _=>∃o,h.get? a=some o
 |.xd fs=>∃mA,h.Ns1 a mA/\∀f,RelO (fs.lookup f) (mA f)
 |.rng lo hi=>∃t u v,h.get? a=some { cls:=.type "range",data:=.fields #[.int lo t,.int hi u,.int 1 v] }
 |.frz o u=>h.get? a=some o/\ObjOk H h a u
 |.tbl ps=>zgm H h a ps
 |.met f x=>h.get? a=some (PySem.W.methodObj (.ref f) (.ref x))
 |.ext φ=>φ h/\(∃o,h.get? a=some o)/\∀h1 h2:Heap,φ h1->(∀o,h1.get? a=some o->h2.get? a=some o)->φ h2
def HOk(H:Hp)(h:Heap):Prop:=∀a o,H a=some o->ObjOk P w H h a o
end
section
variable {P:Program}{w:World}{H H':Hp}{h h':Heap}{a:Addr}{o:HO}
theorem ObjOk.lt(x:ObjOk P w H h a o):a<h.objs.size:=by
 cases o with
 |lst xs=>obtain⟨_,_,_,_,e⟩:=x;exact Heap.lt_size e
 |tup xs=>obtain⟨_,_,_,p⟩:=x;exact p.lt
 |dK kvs=>obtain⟨_,_,_,_,o,_,_,e,_⟩:=x;exact Heap.lt_size e
 |dT kvs=>obtain⟨_,_,_,_,o,_,_,e,_⟩:=x;exact Heap.lt_size e
 |set S n=>obtain⟨o,_,_,_,e,_⟩:=x;exact Heap.lt_size e
 |ins C dx fs=>obtain⟨_,_,_,e,_⟩:=x;exact Heap.lt_size e
 |own y=>obtain⟨_,e⟩:=x;exact Heap.lt_size e
 |xd fs=>obtain⟨_,⟨_,_,_,e,_⟩,_⟩:=x;exact Heap.lt_size e
 |rng lo hi=>obtain⟨_,_,_,e⟩:=x;exact Heap.lt_size e
 |frz ob u=>obtain⟨e,_⟩:=x;exact Heap.lt_size e
 |tbl ps=>obtain⟨_,_,_,_,e,_⟩:=x;exact Heap.lt_size e
 |met f y=>exact Heap.lt_size (show h.get? a=some _ from x)
 |ext φ=>obtain⟨_,⟨_,e⟩,_⟩:=x;exact Heap.lt_size e
theorem Paired.mapP{α β:Type}{F G:α->β->Prop}:∀{l₁:List α}{l₂:List β},Paired F l₁ l₂->(∀a b,F a b->G a b)->Paired G l₁ l₂
 |_,_,.nil,_=>.nil
 |_,_,.cons r t,f=>.cons (f _ _ r) (Paired.mapP t f)
theorem ObjOk.stay(x:ObjOk P w H h a o)(k:∀b u,(b=a\/H b=some (.own a))->h.get? b=some u->h'.get? b=some u)
  (ho:∀b,H b=some (.own a)->H' b=some (.own a)) (ht:∀b xs,H b=some (.tup xs)->H' b=some (.tup xs)) (hf:∀b o u,H b=some (.frz o u)->H' b=some (.frz o u):=by exact λ_ _ _ q=>q):ObjOk P w H' h' a o:=by
 induction o with
 |lst xs=>obtain⟨z,its,n,r,e⟩:=x;exact⟨z,its,n,r,k _ _ (.inl rfl) e⟩
 |tup xs=>obtain⟨z,its,r,ob,e,c⟩:=x;exact⟨z,its,r,ob,k _ _ (.inl rfl) e,c⟩
 |dK kvs=>obtain⟨z,y,vs,r,ob,es,ep,e,c⟩:=x;exact⟨z,y,vs,r,ob,es,ep,k _ _ (.inl rfl) e,c⟩
 |dT kvs=>
  obtain⟨z,y,xs,r,ob,es,ep,e,c⟩:=x;exact⟨z,y,xs,Paired.mapP r λp q z=>⟨z.1,ht _ _ z.2.1,z.2.2⟩,ob,es,ep,k _ _ (.inl rfl) e,c⟩
 |set S n=>obtain⟨ob,es,ep,t,e,c⟩:=x;exact⟨ob,es,ep,t,k _ _ (.inl rfl) e,c⟩
 |ins C dx fs=>
  obtain⟨d,z,ne,e,mA,⟨od,es,ep,e2,c⟩,r⟩:=x;exact⟨ho _ d,z,ne,k _ _ (.inl rfl) e,mA,⟨od,es,ep,k _ _ (.inr d) e2,c⟩,r⟩
 |own y=>obtain⟨ob,e⟩:=x;exact⟨ob,k _ _ (.inl rfl) e⟩
 |xd fs=>obtain⟨mA,⟨od,es,ep,e,c⟩,r⟩:=x;exact⟨mA,⟨od,es,ep,k _ _ (.inl rfl) e,c⟩,r⟩
 |rng lo hi=>obtain⟨t,u,v,e⟩:=x;exact⟨t,u,v,k _ _ (.inl rfl) e⟩
 |frz ob u ih=>obtain⟨e,q⟩:=x;exact⟨k _ _ (.inl rfl) e,ih q⟩
 |tbl ps=>
  obtain⟨rs,q,t,z,e,tr,r⟩:=x;exact⟨rs,q,t,z,k a _ (.inl rfl) e,tr,λpos cv y=>let ⟨c',oc,u,r1,r2,r3⟩:=r pos cv y;⟨c',oc,u,r1,hf _ _ _ r2,r3⟩⟩
 |met f y=>
  have e:h.get? a=some (PySem.W.methodObj (.ref f) (.ref y)):=x;show h'.get? a=some (PySem.W.methodObj (.ref f) (.ref y));exact k a _ (.inl rfl) e
 |ext φ=>obtain⟨p,⟨o,e⟩,st⟩:=x;exact⟨st _ _ p λo q=>k _ _ (.inl rfl) q,⟨o,k _ _ (.inl rfl) e⟩,st⟩
theorem HOk.lt(x:HOk P w H h)(e:H a=some o):a<h.objs.size:=(x a o e).lt
theorem HOk.fresh(x:HOk P w H h)(e:h.objs.size<=a):H a=none:=by
 cases q:H a with
 |none=>rfl
 |some u=>exact absurd (Nat.lt_of_lt_of_le (x.lt q) e) (Nat.lt_irrefl _)
theorem HOk.kept(x:HOk P w H h)(k:∀b u,h.get? b=some u->h'.get? b=some u):HOk P w H h':=λa o e=>
 (x a o e).stay (λb u _ q=>k b u q) (λ_ q=>q) λ_ _ q=>q
theorem HOk.laid(x:HOk P w H h)(k:∀b u,h.get? b=some u->h'.get? b=some u)(hp:h.objs.size<=a)(new:ObjOk P w (upd H a o) h' a o):HOk P w (upd H a o) h':=λb u e=>by
 have hn:=x.fresh hp
 by_cases hb:b=a
 ·subst hb;rw[zx]at e;cases e;exact new
 ·rw[zw hb]at e;exact(x b u e).stay (λc v _ q=>k c v q) (λc q=>by rw[zw (yi q hn)];exact q) (λc xs q=>by rw[zw (yi q hn)];exact q) λc _ _ q=>by rw[zw (yi q hn)];exact q
end
def Rd(H:Hp)(a:Addr)(u:HO):Prop:=H a=some u\/∃o,H a=some (.frz o u)
theorem Rd.of{H:Hp}{a:Addr}{u:HO}(h:H a=some u):Rd H a u:=.inl h
theorem Rd.ok{P:Program}{w:World}{H:Hp}{h:Heap}{a:Addr}{u:HO}(r:Rd H a u)(x:HOk P w H h):ObjOk P w H h a u:=by
 rcases r with r |⟨o,r⟩
 ·exact x a u r
 ·obtain⟨_,q⟩:=x a _ r;exact q
def Mut:Option HO->Prop
 |some (.lst _)=>True
 |some (.dK _)=>True
 |some (.dT _)=>True
 |some (.set _ _)=>True
 |some (.ins _ _ _)=>True
 |some (.ext _)=>True
 |_=>False
section
variable {P:Program}{w:World}{H:Hp}{h h':Heap}{x e:Addr}{o':HO}
theorem HOk.write(ok:HOk P w H h)(mu:Mut (H x))(he:e=x\/H e=some (.own x))(k:∀b u,b≠e->h.get? b=some u->h'.get? b=some u)(heo:∃u,h'.get? e=some u)
  (new:ObjOk P w (upd H x o') h' x o'):HOk P w (upd H x o') h':=λb u q=>by
 have nown:∀c y,H c=some (.own y)->c≠x:=λc y r z=>by subst z;rw[r]at mu;exact mu
 have ntup:∀c xs,H c=some (.tup xs)->c≠x:=λc xs r z=>by subst z;rw[r]at mu;exact mu
 have nfrz:∀c o u,H c=some (.frz o u)->c≠x:=λc o u r z=>by subst z;rw[r]at mu;exact mu
 by_cases hb:b=x
 ·subst hb;rw[zx]at q;cases q;exact new
 ·rw[zw hb]at q
  by_cases hbe:b=e
  ·have q':H b=some (.own x):=by
    rcases he with z|z
    ·exact absurd (hbe.trans z) hb
    ·rw[hbe];exact z
   rw[q]at q';cases q';obtain⟨v,hv⟩:=heo;exact⟨v,by rw[hbe];exact hv⟩
  ·refine(ok b u q).stay (λc v hc r=>k c v ?_ r) (λc r=>by rw[zw (nown c b r)];exact r) (λc xs r=>by rw[zw (ntup c xs r)];exact r) (λc o u r=>by rw[zw (nfrz c o u r)];exact r);rcases hc with rfl|hc
   ·exact hbe
   ·rintro rfl;rcases he with z|z
    ·exact nown c b hc z
    ·rw[hc]at z;cases z;exact hb rfl
end
structure Un(fs ex:List Addr)(H H':Hp)(h h':Heap):Prop where
 keep:∀b o,h.get? b=some o->H b=none->b∉fs->b∉ex->h'.get? b=some o
 slot:∀b o,h.get? b=some o->H b=none->b∈fs->b∉ex->∃sl,h'.get? b=some { o with slots:=sl }
 free:∀b o,h.get? b=some o->H b=none->b∉ex->H' b=none
 there:∀b o,h.get? b=some o->b∉ex->∃o',h'.get? b=some o'
 tups:∀b xs,H b=some (.tup xs)->H' b=some (.tup xs)
 frzs:∀b o u,H b=some (.frz o u)->H' b=some (.frz o u)
 tbls:∀b ps,H b=some (.tbl ps)->∃more,H' b=some (.tbl (ps++more))
section
variable {fs fs' ex ex':List Addr}{H H1 H2:Hp}{h h1 h2 h':Heap}{a x e:Addr}{o:HO}
theorem Un.any(u:Un fs ex H H1 h h1){b:Addr}{ob:Obj}(q:h.get? b=some ob)(n:H b=none)(hx:b∉ex):∃sl,h1.get? b=some { ob with slots:=sl }:=by
 by_cases hb:b∈fs
 ·exact u.slot b ob q n hb hx
 ·exact⟨ob.slots,u.keep b ob q n hb hx⟩
theorem Un.trans(a:Un fs ex H H1 h h1)(b:Un fs ex H1 H2 h1 h2):Un fs ex H H2 h h2 where
 keep:=λc ob q n hc hx=>b.keep c ob (a.keep c ob q n hc hx) (a.free c ob q n hx) hc hx
 slot:=λc ob q n hc hx=>by
  obtain⟨sl,e1⟩:=a.slot c ob q n hc hx;obtain⟨sl',e2⟩:=b.slot c _ e1 (a.free c ob q n hx) hc hx;exact⟨sl',e2⟩
 free:=λc ob q n hx=>by
  obtain⟨o',e1⟩:=a.there c ob q hx;exact b.free c o' e1 (a.free c ob q n hx) hx
 there:=λc ob q hx=>by
  obtain⟨o',e1⟩:=a.there c ob q hx;exact b.there c o' e1 hx
 tups:=λc xs q=>b.tups c xs (a.tups c xs q)
 frzs:=λc ob xs q=>b.frzs c ob xs (a.frzs c ob xs q)
 tbls:=λc ps q=>by
  obtain⟨m1,e1⟩:=a.tbls c ps q;obtain⟨m2,e2⟩:=b.tbls c _ e1;exact⟨m1++m2,by rw[e2,Array.append_assoc]⟩
theorem Un.kept(k:∀b u,h.get? b=some u->h'.get? b=some u):Un fs ex H H h h' :=
 ⟨λb ob q _ _ _=>k b ob q,λb ob q _ _ _=>⟨ob.slots,k b ob q⟩,λ_ _ _ n _=>n,λb ob q _=>⟨ob,k b ob q⟩,λ_ _ q=>q,λ_ _ _ q=>q,λ_ ps q=>⟨#[],by rw[q];simp⟩⟩
theorem Un.refl:Un fs ex H H h h:=Un.kept λ_ _ q=>q
theorem Un.laid(k:∀b u,h.get? b=some u->h'.get? b=some u)(hp:h.objs.size<=a)(hn:H a=none):Un fs ex H (upd H a o) h h' where
 keep:=λb u q _ _ _=>k b u q
 slot:=λb u q _ _ _=>⟨u.slots,k b u q⟩
 free:=λb u q n _=>by rw[zw (Nat.ne_of_lt (Nat.lt_of_lt_of_le (Heap.lt_size q) hp))];exact n
 there:=λb u q _=>⟨u,k b u q⟩
 tups:=λb xs q=>by rw[zw (yi q hn)];exact q
 frzs:=λb u xs q=>by rw[zw (yi q hn)];exact q
 tbls:=λb ps q=>⟨#[],by rw[zw (yi q hn),q];simp⟩
theorem Un.write(mu:Mut (H x))(he:e=x\/H e=some (.own x))(k:∀b u,b≠e->h.get? b=some u->h'.get? b=some u)(heo:∃u,h'.get? e=some u):Un fs ex H (upd H x o) h h':=by
 have hx:∀b,H b=none->b≠x:=λb n z=>by subst z;rw[n]at mu;exact mu
 have hb:∀b,H b=none->b≠e:=λb n z=>by
  subst z;rcases he with r|r
  ·exact hx b n r
  ·rw[n]at r;cases r
 have hm:∀b u,H b=some u->¬ Mut (some u)->b≠x:=λb u q nm z=>by subst z;rw[q]at mu;exact nm mu
 refine⟨λb u q n _ _=>k b u (hb b n) q,λb u q n _ _=>⟨u.slots,k b u (hb b n) q⟩,λb u q n _=>by rw[zw (hx b n)];exact n,λb u q _=>?_,
  λb xs q=>by rw[zw (hm b _ q λz=>z)];exact q,λb u xs q=>by rw[zw (hm b _ q λz=>z)];exact q,λb ps q=>⟨#[],by rw[zw (hm b _ q λz=>z),q];simp⟩⟩
 by_cases hbe:b=e
 ·subst hbe;exact heo
 ·exact⟨u,k b u hbe q⟩
theorem Un.mono(u:Un fs ex H H1 h h1)(hs:∀b∈fs,b∈fs')(hx:∀b∈ex,b∈ex'):Un fs' ex' H H1 h h1 :=
 ⟨λb ob q n hb he=>u.keep b ob q n (λz=>hb (hs b z)) λz=>he (hx b z),λ_ _ q n _ he=>u.any q n λz=>he (hx _ z),λb ob q n he=>u.free b ob q n λz=>he (hx b z),λb ob q he=>u.there b ob q λz=>he (hx b z),u.tups,u.frzs,u.tbls⟩
end
def trk(h:Heap)(H:Hp):List Addr:=(List.range h.objs.size).filter λa=>(H a).isSome
def zcp(h:Heap)(H:Hp):Heap:=PySem.W.hideAll h (trk h H)
theorem zk0(h:Heap)(H:Hp):(zcp h H).objs.size=h.objs.size:=PySem.W.hideAll_size _ _
theorem zl9{h:Heap}{H:Hp}{b:Addr}{o:Obj}(e:h.get? b=some o)(n:H b=none):(zcp h H).get? b=some o :=
 PySem.W.hideAll_get _ e λhm=>by
  have q:(H b).isSome=true:=(List.mem_filter.mp hm).2;rw[n]at q;simp at q
theorem zop{h:Heap}{H:Hp}{b:Addr}{o:Obj}(e:(zcp h H).get? b=some o):h.get? b=some o/\H b=none:=by
 have e':h.get? b=some o:=PySem.W.of_hideAll (trk h H) e;refine⟨e',?_⟩
 cases q:H b with
 |none=>rfl
 |some x=>
  have hm:b∈trk h H:=List.mem_filter.mpr ⟨List.mem_range.mpr (Heap.lt_size e'),by simp[q]⟩;have z:(zcp h H).get? b=none:=PySem.W.hideAll_none (trk h H) hm;rw[z]at e;cases e
def zoq(g h:Heap)(L:Addr):List (Addr×Obj):=(List.range h.objs.size).filterMap λa=>if a=L\/(g.get? a).isSome=true then none else (h.get? a).map λo=>(a,o)
def rest(g h:Heap)(L d:Addr):List (Addr×Obj):=(zoq g h L).filter λp=>decide (p.1≠d)
structure Mod(K:PySem.W.Frag)(mg:Str->Option Value)(base:Heap):Prop where
 kin:K.In base
 glob:base.Ns mainGlobals mg
 blt:∃mb,base.Ns builtinsNs mb/\∀x:Str,x ≠ "__name__" -> mb x=bootBuiltins x
 nolimit:base.NoLimit
structure Cx where
 prog:Program
 w:World
 K:PySem.W.Frag
 mg:Str->Option Value
 base:Heap
 A:Around
 N:List Str
 s₀:Shared
 H₀:Hp
 env:Env
 outer:List Env
 stack:List Env
 ex:List Addr
 fn:Str->Bool
 calm:Bool
 pn:List (Addr×Obj)
 xe:Value->Shared->Prop
def frs(l:List Env):List Addr:=l.filterMap (·.frame)
abbrev Cx.fs(X:Cx):List Addr:=frs X.outer
def Vis(sc:Scope)(x:Str):Prop:=sc.names.lookup x=some .local\/sc.names.lookup x=some .cell\/sc.names.lookup x=some .free
def Loc(sc:Scope)(x:Str):Prop:=sc.names.lookup x=some .local\/sc.names.lookup x=some .cell
def zv5(env:Env)(h:Heap)(m:Str->Option Value)(x:Str)(u:Value):Prop :=
 (env.kindOf x=some .local/\m x=some u)\/((env.kindOf x=some .cell\/env.kindOf x=some .free)/\∃c,env.cells.lookup x=some c/\h.IsCell c (some u))
structure Cx.Ok(X:Cx):Prop where
 mod:Mod X.K X.mg X.base
 kind:X.env.scope.kind=.function
 glob:X.env.globals=mainGlobals
 blt:X.env.builtins=builtinsNs
 above:X.s₀.heap.objs.size<=X.env.locals
 inj:∀x y c,X.env.cells.lookup x=some c->X.env.cells.lookup y=some c->x=y
 has:∀x,(X.env.kindOf x=some .cell\/X.env.kindOf x=some .free)->∃c,X.env.cells.lookup x=some c
 cab:∀x c,X.fn x=true->X.env.cells.lookup x=some c->X.s₀.heap.objs.size<=c
 hd:X.calm=true->X.A.handled=none
 frames:X.A.frames=some X.stack
 stk:X.stack=X.outer\/(X.stack=X.env::X.outer/\X.env.frame=some X.env.locals)
 exf:∀b∈X.ex,b≠X.env.locals/\∀x c,X.env.cells.lookup x=some c->c≠b
 bs:∀b o,X.base.get? b=some o->X.s₀.heap.get? b=some o/\X.H₀ b=none
 bsz:X.base.objs.size<=X.s₀.heap.objs.size
 noex:∀b o,X.base.get? b=some o->b∉X.ex
 exfs:∀b∈X.ex,b∉X.fs
 funs:X.s₀.heap.FunFrames X.base X.outer
 frf:∀b∈X.fs,X.H₀ b=none
structure Inv(X:Cx)(pins:List (Addr×Obj))(σ:List (Option V))(H:Hp)(s:Shared):Prop where
 ok:X.Ok
 os:s.os=X.s₀.os
 bare:AllBare s.gens
 base:Un X.fs X.ex X.H₀ H X.s₀.heap s.heap
 loc:∃m,s.heap.Ns X.env.locals m/\∀(i:Nat) (x:Str) (v:V),X.N[i]?=some x->σ[i]?=some (some v)->Vis X.env.scope x->∃u,RelV v u/\zv5 X.env s.heap m x u
 cell:∀x c,X.env.cells.lookup x=some c->∃v,s.heap.IsCell c v
 free:H X.env.locals=none
 freeC:∀x c,X.env.cells.lookup x=some c->H c=none
 pin:∀p∈X.pn++pins,s.heap.get? p.1=some p.2/\H p.1=none/\p.1≠X.env.locals/\p.1∉X.fs/\∀v,p.2.data ≠ .cell v
 hok:HOk X.prog X.w H s.heap
 len:σ.length=X.N.length
section
variable {X:Cx}{pins:List (Addr×Obj)}{σ:List (Option V)}{H H':Hp}{s:Shared}{h':Heap}
theorem Cx.Ok.nofr(ok:X.Ok){b:Addr}{o:Obj}(e:X.base.get? b=some o):b∉X.fs:=λhb=>by
 have:=(ok.funs.mem hb).1;rw[e]at this;cases this
theorem Inv.bs(I:Inv X pins σ H s):∀b o,X.base.get? b=some o->s.heap.get? b=some o/\H b=none:=λb o e=>
 ⟨I.base.keep b o (I.ok.bs b o e).1 (I.ok.bs b o e).2 (I.ok.nofr e) (I.ok.noex b o e),I.base.free b o (I.ok.bs b o e).1 (I.ok.bs b o e).2 (I.ok.noex b o e)⟩
theorem Inv.bk(I:Inv X pins σ H s):∀b o,X.base.get? b=some o->s.heap.get? b=some o:=λb o e=>(I.bs b o e).1
theorem Inv.mod(I:Inv X pins σ H s):Mod X.K X.mg X.base:=I.ok.mod
theorem Inv.kIn(I:Inv X pins σ H s):X.K.In s.heap:=I.ok.mod.kin.keeps I.bk
theorem Inv.lt(I:Inv X pins σ H s):X.env.locals<s.heap.objs.size:=let ⟨_,hn,_⟩:=I.loc;hn.lt
theorem Inv.sz(I:Inv X pins σ H s):X.s₀.heap.objs.size<=s.heap.objs.size:=Nat.le_trans I.ok.above (Nat.le_of_lt I.lt)
theorem Inv.nofs(I:Inv X pins σ H s){a:Addr}(h:s.heap.objs.size<=a):a∉X.fs:=λhb=>by
 obtain⟨_,o,ho,_⟩:=I.ok.funs.mem hb;exact absurd (Nat.lt_of_lt_of_le (Heap.lt_size ho) (Nat.le_trans I.sz h)) (Nat.lt_irrefl _)
theorem Inv.cne(I:Inv X pins σ H s):∀x c,X.env.cells.lookup x=some c->c≠X.env.locals:=λx c e z=>by
 obtain⟨v,o,ho,hd⟩:=I.cell x c e;obtain⟨m,⟨o',es,ep,ho',hd',_⟩,_⟩:=I.loc;rw[z,ho']at ho;cases ho;rw[hd']at hd;cases hd
theorem Inv.funs(I:Inv X pins σ H s):s.heap.FunFrames X.base X.outer:=by
 have all:∀(l:List Env),(∀b∈frs l,b∈X.fs)->X.s₀.heap.FunFrames X.base l->s.heap.FunFrames X.base l:=by
  intro l
  induction l with
  |nil=>intro _ _;trivial
  |cons env r ih=>
   intro hs hl;obtain⟨hk,⟨L,o,hf,hn,ho,hd⟩,hr⟩:=hl;have hL:L∈X.fs:=hs L (by unfold frs;rw[List.filterMap_cons,hf];exact List.mem_cons_self);obtain⟨sl,e⟩:=I.base.slot L o ho (I.ok.frf L hL) hL λz=>I.ok.exfs L z hL;exact⟨hk,⟨L,_,hf,hn,e,hd⟩,ih (λb hb=>hs b (by unfold frs;rw[List.filterMap_cons,hf];exact List.mem_cons_of_mem _ hb)) hr⟩
 exact all X.outer (λ_ hb=>hb) I.ok.funs
theorem Inv.stack(I:Inv X pins σ H s):s.heap.FunFrames X.base X.stack:=by
 rcases I.ok.stk with e |⟨e,hf⟩
 ·rw[e];exact I.funs
 ·rw[e];obtain⟨m,hn,_⟩:=I.loc;refine .cons (by rw[I.ok.kind];decide) hf hn ?_ I.funs;exact Heap.get?_none_of_le (Nat.le_trans I.ok.bsz I.ok.above)
theorem Inv.stkSub(I:Inv X pins σ H s):∀b∈frs X.stack,b∈X.env.locals::X.fs:=λb hb=>by
 rcases I.ok.stk with e |⟨e,hf⟩
 ·rw[e]at hb;exact List.mem_cons_of_mem _ hb
 ·rw[e]at hb;unfold frs at hb;rw[List.filterMap_cons,hf]at hb;exact hb
theorem Inv.stkFree(I:Inv X pins σ H s):∀b∈frs X.stack,H b=none:=λb hb=>by
 rcases List.mem_cons.mp (I.stkSub b hb) with e|hb
 ·rw[e];exact I.free
 ·obtain⟨_,o,ho,_⟩:=I.ok.funs.mem hb;exact I.base.free b o ho (I.ok.frf b hb) λz=>I.ok.exfs b z hb
theorem Inv.step{g':Array GenState}{t':Nat}{d':Drawn}{ch:List Addr}(I:Inv X pins σ H s)
  (hch:∀b∈ch,(b∈X.ex\/X.s₀.heap.objs.size<=b)/\b≠X.env.locals/\(∀x c,X.env.cells.lookup x=some c->c≠b)/\∀p∈X.pn++pins,p.1≠b)
  (keep:∀b o,b≠X.env.locals->b∉X.fs->b∉ch->s.heap.get? b=some o->H b=none->h'.get? b=some o)
  (slot:∀b o,b≠X.env.locals->b∈X.fs->b∉ch->s.heap.get? b=some o->H b=none->∃sl,h'.get? b=some { o with slots:=sl }) (free:∀b o,b∉ch->s.heap.get? b=some o->H b=none->H' b=none)
  (there:∀b o,b∉ch->s.heap.get? b=some o->∃o',h'.get? b=some o')
  (tups:∀b xs,H b=some (.tup xs)->H' b=some (.tup xs)) (frzs:∀b o u,H b=some (.frz o u)->H' b=some (.frz o u)) (tbls:∀b ps,H b=some (.tbl ps)->∃more,H' b=some (.tbl (ps++more)))
  (ns:∀m,s.heap.Ns X.env.locals m->h'.Ns X.env.locals m) (hok:HOk X.prog X.w H' h') (hg:AllBare g') :
  Inv X pins σ H' { s with heap:=h',gens:=g',drawn:=d',toks:=t' }:=by
 have neL:∀b o,X.s₀.heap.get? b=some o->b≠X.env.locals:=λb o e=>Nat.ne_of_lt (Nat.lt_of_lt_of_le (Heap.lt_size e) I.ok.above);have neC:∀b o,X.s₀.heap.get? b=some o->b∉X.ex->b∉ch:=λb o e hx hb=>by
  rcases (hch b hb).1 with z|z
  ·exact hx z
  ·exact absurd (Nat.lt_of_lt_of_le (Heap.lt_size e) z) (Nat.lt_irrefl _)
 have cellK:∀x c,X.env.cells.lookup x=some c->∀v,s.heap.IsCell c v->h'.IsCell c v:=λx c e v ⟨o,ho,hd⟩=>by
  have nch:c∉ch:=λz=>(hch c z).2.2.1 x c e rfl
  by_cases hc:c∈X.fs
  ·obtain⟨sl,q⟩:=slot c o (I.cne x c e) hc nch ho (I.freeC x c e);exact⟨_,q,hd⟩
  ·exact⟨o,keep c o (I.cne x c e) hc nch ho (I.freeC x c e),hd⟩
 refine⟨I.ok,I.os,hg,⟨λb o e n hb hx=>?_,λb o e n hb hx=>?_,λb o e n hx=>?_,λb o e hx=>?_,λb xs e=>tups b xs (I.base.tups b xs e),λb o xs e=>frzs b o xs (I.base.frzs b o xs e),λb ps e=>?_⟩,?_,λx c e=>?_,?_,λx c e=>?_,λp hp=>?_,hok,I.len⟩
 ·exact keep b o (neL b o e) hb (neC b o e hx) (I.base.keep b o e n hb hx) (I.base.free b o e n hx)
 ·obtain⟨sl,e1⟩:=I.base.slot b o e n hb hx;obtain⟨sl',e2⟩:=slot b _ (neL b o e) hb (neC b o e hx) e1 (I.base.free b o e n hx);exact⟨sl',e2⟩
 ·obtain⟨o',e1⟩:=I.base.there b o e hx;exact free b o' (neC b o e hx) e1 (I.base.free b o e n hx)
 ·obtain⟨o',e1⟩:=I.base.there b o e hx;exact there b o' (neC b o e hx) e1
 ·obtain⟨m1,e1⟩:=I.base.tbls b ps e;obtain⟨m2,e2⟩:=tbls b _ e1;exact⟨m1++m2,by rw[e2,Array.append_assoc]⟩
 ·obtain⟨m,hn,hl⟩:=I.loc;refine⟨m,ns m hn,λi x v e1 e2 e3=>?_⟩;obtain⟨u,r,l⟩:=hl i x v e1 e2 e3;refine⟨u,r,?_⟩;rcases l with l |⟨k,c,e,z⟩
  ·exact .inl l
  ·exact .inr ⟨k,c,e,cellK x c e _ z⟩
 ·obtain⟨v,z⟩:=I.cell x c e;exact⟨v,cellK x c e v z⟩
 ·obtain⟨m,⟨o,_,_,ho,_⟩,_⟩:=I.loc;exact free _ o (λz=>(hch _ z).2.1 rfl) ho I.free
 ·obtain⟨v,o,ho,hd⟩:=I.cell x c e;exact free c o (λz=>(hch c z).2.2.1 x c e rfl) ho (I.freeC x c e)
 ·obtain⟨e,n,ne,nf,d⟩:=I.pin p hp;have nch:p.1∉ch:=λz=>(hch p.1 z).2.2.2 p hp rfl;exact⟨keep p.1 p.2 ne nf nch e n,free p.1 p.2 nch e n,ne,nf,d⟩
theorem Inv.un{t':Nat}(I:Inv X pins σ H s)(u:Un X.fs [] H H' s.heap h')(hok:HOk X.prog X.w H' h'):Inv X pins σ H' { s with heap:=h',toks:=t' }:=by
 obtain⟨m,⟨o,es,ep,ho,r⟩,_⟩:=id I.loc;obtain⟨sl,hL⟩:=u.any ho I.free (by simp);exact I.step (g':=s.gens) (d':=s.drawn) (ch:=[]) (λ_ z=>nomatch z) (λb o _ hb _ e n=>u.keep b o e n hb (by simp)) (λb o _ hb _ e n=>u.slot b o e n hb (by simp)) (λb o _ e n=>u.free b o e n (by simp)) (λb o _ e=>u.there b o e (by simp)) u.tups u.frzs u.tbls (λm' hm=>by
  obtain⟨o',es',ep',ho',r'⟩:=hm;rw[ho]at ho';cases ho';exact⟨_,es',ep',hL,r'⟩) hok I.bare
theorem Inv.call{g':Array GenState}{t':Nat}{d':Drawn}{ch:List Addr}(I:Inv X pins σ H s)(u:Un (frs X.stack) ch H H' s.heap h')(hok:HOk X.prog X.w H' h')(hg:AllBare g')
  (hch:∀b∈ch,(b∈X.ex\/X.s₀.heap.objs.size<=b)/\b≠X.env.locals/\(∀x c,X.env.cells.lookup x=some c->c≠b)/\∀p∈X.pn++pins,p.1≠b) :
  Inv X pins σ H' { s with heap:=h',gens:=g',drawn:=d',toks:=t' }:=by
 obtain⟨m,⟨o,es,ep,ho,r⟩,_⟩:=id I.loc;obtain⟨sl,hL⟩:=u.any ho I.free λz=>(hch _ z).2.1 rfl;exact I.step (ch:=ch) hch (λb o hL hb hc e n=>u.keep b o e n (λz=>(List.mem_cons.mp (I.stkSub b z)).elim hL hb) hc) (λb o _ _ hc e n=>u.any e n hc) (λb o hc e n=>u.free b o e n hc) (λb o hc e=>u.there b o e hc) u.tups u.frzs u.tbls (λm' hm=>by
  obtain⟨o',es',ep',ho',r'⟩:=hm;rw[ho]at ho';cases ho';exact⟨_,es',ep',hL,r'⟩) hok hg
theorem Inv.turned{t':Nat}{it:Addr}(I:Inv X pins σ H s)(k:∀b o,b≠it->s.heap.get? b=some o->h'.get? b=some o)(hn:H it=none)(hL:it≠X.env.locals)
  (h1:it∈X.ex\/X.s₀.heap.objs.size<=it) (h2:∀x c,X.env.cells.lookup x=some c->c≠it) (h3:∀p∈X.pn++pins,p.1≠it):Inv X pins σ H { s with heap:=h',toks:=t' }:=by
 have nit:∀b u,H b=some u->b≠it:=λb u e z=>by rw[z,hn]at e;cases e
 refine I.step (g':=s.gens) (d':=s.drawn) (ch:=[it]) (λb hb=>?_) (λb o _ _ hc e _=>k b o (λz=>hc (by simp[z])) e) (λb o _ _ hc e _=>⟨o.slots,k b o (λz=>hc (by simp[z])) e⟩) (λ_ _ _ _ n=>n)
  (λb o hc e=>⟨o,k b o (λz=>hc (by simp[z])) e⟩) (λ_ _ e=>e) (λ_ _ _ e=>e) (λb ps e=>⟨#[],by rw[e];simp⟩) (λm hm=>?_) (λb u e=>?_) I.bare
 ·have e:b=it:=by simpa using hb
  subst e;exact⟨h1,hL,h2,h3⟩
 ·obtain⟨o,es,ep,ho,r⟩:=hm;exact⟨o,es,ep,k _ o (Ne.symm hL) ho,r⟩
 ·refine(I.hok b u e).stay (λc v hc q=>k c v ?_ q) (λ_ q=>q) λ_ _ q=>q;rcases hc with z|z
  ·rw[z];exact nit b u e
  ·exact nit c _ z
theorem Inv.tok(I:Inv X pins σ H s)(t:Nat):Inv X pins σ H { s with toks:=t }:=I.un (h':=s.heap) (t':=t) Un.refl I.hok
theorem Inv.kept{t':Nat}(I:Inv X pins σ H s)(k:∀b u,s.heap.get? b=some u->h'.get? b=some u):Inv X pins σ H { s with heap:=h',toks:=t' }:=I.un (Un.kept k) (I.hok.kept k)
theorem Inv.laid{a:Addr}{o:HO}{t':Nat}(I:Inv X pins σ H s)(k:∀b u,s.heap.get? b=some u->h'.get? b=some u)(hp:s.heap.objs.size<=a)(new:ObjOk X.prog X.w (upd H a o) h' a o):
  Inv X pins σ (upd H a o) { s with heap:=h',toks:=t' }:=I.un (Un.laid k hp (I.hok.fresh hp)) (I.hok.laid k hp new)
theorem Inv.write{x e:Addr}{o:HO}{t':Nat}(I:Inv X pins σ H s)(mu:Mut (H x))(he:e=x\/H e=some (.own x))(k:∀b u,b≠e->s.heap.get? b=some u->h'.get? b=some u)(heo:∃u,h'.get? e=some u)
  (new:ObjOk X.prog X.w (upd H x o) h' x o):Inv X pins σ (upd H x o) { s with heap:=h',toks:=t' }:=I.un (Un.write mu he k heo) (I.hok.write mu he k heo new)
theorem Inv.pins_of{pins':List (Addr×Obj)}(I:Inv X pins σ H s)(h:∀p∈pins',s.heap.get? p.1=some p.2/\H p.1=none/\p.1≠X.env.locals/\p.1∉X.fs/\∀v,p.2.data ≠ .cell v):Inv X pins' σ H s :=
 ⟨I.ok,I.os,I.bare,I.base,I.loc,I.cell,I.free,I.freeC,λp hp=>(List.mem_append.mp hp).elim (λz=>I.pin p (List.mem_append_left _ z)) (h p),I.hok,I.len⟩
theorem zgn{N:List Str}(hN:N.Nodup){i j:Nat}{x:Str}(a:N[i]?=some x)(b:N[j]?=some x):i=j:=by
 obtain⟨h1,e1⟩:=List.getElem?_eq_some_iff.mp a;obtain⟨h2,e2⟩:=List.getElem?_eq_some_iff.mp b;exact(List.getElem_inj hN).mp (e1.trans e2.symm)
theorem za9{M:Model}{A:Around}{E:Value->Shared->Prop}{i:Nat}{x:Str}{v:V}{u:Value}{Q:Unit->Shared->Prop}(I:Inv X pins σ H s)(hN:X.N.Nodup)(hi:X.N[i]?=some x)(hx:Loc X.env.scope x)(r:RelV v u)
  (h:∀s',Inv X pins (σ.set i (some v)) H s'->(∃a,Heap.SameBut a s.heap s'.heap/\(a=X.env.locals\/X.env.cells.lookup x=some a))->Q () s') (hf:X.fn x=true\/X.env.scope.names.lookup x=some .local:=by first|exact .inl rfl|exact .inr rfl|assumption):wpAny M A (storeName X.env x u) Q E s:=by
 obtain⟨m,hn,hl⟩:=id I.loc;have hcls:(X.env.scope.kind == .class ||(X.env.scope.kind == .module && X.env.locals != X.env.globals))=false:=by rw[I.ok.kind];rfl
 have hiσ:i<σ.length:=by rw[I.len];exact(List.getElem?_eq_some_iff.mp hi).1
 have cne:=I.cne;have tracked:∀{a:Addr}{h':Heap},(∃o,s.heap.get? a=some o/\H a=none)->Heap.SameBut a s.heap h'->HOk X.prog X.w H h':=λ{a h'} ha hs b ob e=>by
  obtain⟨_,_,hfree⟩:=ha;refine(I.hok b ob e).stay (λc w' hc q=>(hs.2 c ?_).trans q) (λ_ q=>q) λ_ _ q=>q;rintro rfl;rcases hc with rfl|hc
  ·rw[hfree]at e;cases e
  ·rw[hfree]at hc;cases hc
 rcases hx with hk|hk
 ·refine wpAny_storeName_local hk hn (λh' hn' hs=>?_) hcls;obtain⟨oL,_,_,hoL,_⟩:=id hn;refine h _ ⟨I.ok,I.os,I.bare,⟨λb o e n hb hx=>?_,λb o e n hb hx=>?_,I.base.free,λb o e hx=>?_,I.base.tups,I.base.frzs,I.base.tbls⟩,⟨_,hn',λj y v' e1 e2 e3=>?_⟩,λy c e=>?_,I.free,I.freeC,λp hp=>?_,tracked ⟨oL,hoL,I.free⟩ hs,by simpa using I.len⟩ ⟨_,hs,.inl rfl⟩
  ·exact(hs.2 b (Nat.ne_of_lt (Nat.lt_of_lt_of_le (Heap.lt_size e) I.ok.above))).trans (I.base.keep b o e n hb hx)
  ·obtain⟨sl,e1⟩:=I.base.slot b o e n hb hx;exact⟨sl,(hs.2 b (Nat.ne_of_lt (Nat.lt_of_lt_of_le (Heap.lt_size e) I.ok.above))).trans e1⟩
  ·obtain⟨o',e1⟩:=I.base.there b o e hx;exact⟨o',(hs.2 b (Nat.ne_of_lt (Nat.lt_of_lt_of_le (Heap.lt_size e) I.ok.above))).trans e1⟩
  ·by_cases hj:j=i
   ·subst hj;rw[hi]at e1;cases e1;rw[List.getElem?_set_self hiσ]at e2
    cases e2;exact⟨u,r,.inl ⟨hk,by simp⟩⟩
   ·rw[List.getElem?_set_ne (Ne.symm hj)]at e2;obtain⟨u',r',q⟩:=hl j y v' e1 e2 e3;refine⟨u',r',?_⟩;rcases q with⟨k,e⟩ |⟨k,c,e,z⟩
    ·refine .inl ⟨k,?_⟩;have:y≠x:=λe=>hj (zgn hN e1 (e ▸ hi));simp[this,e]
    ·exact .inr ⟨k,c,e,z.sameBut hs (cne y c e)⟩
  ·obtain⟨w',z⟩:=I.cell y c e;exact⟨w',z.sameBut hs (cne y c e)⟩
  ·obtain⟨e,n,ne,nf,d⟩:=I.pin p hp;exact⟨(hs.2 p.1 ne).trans e,n,ne,nf,d⟩
 ·have hfn:X.fn x=true:=by
   rcases hf with z|z
   ·exact z
   ·rw[z]at hk;cases hk
  obtain⟨c,hc⟩:=I.ok.has x (.inl hk);obtain⟨w',z⟩:=I.cell x c hc;refine wpAny_storeName_cell I.ok.kind hk hc z (λh' hc' hs=>?_);obtain⟨oc,hoc,hocd⟩:=id z;refine h { s with heap:=h' } ⟨I.ok,I.os,I.bare,⟨λb o e n hb hx=>?_,λb o e n hb hx=>?_,I.base.free,λb o e hx=>?_,I.base.tups,I.base.frzs,I.base.tbls⟩,⟨m,hn.sameBut hs (Ne.symm (cne x c hc)),λj y v' e1 e2 e3=>?_⟩,λy c' e=>?_,I.free,I.freeC,λp hp=>?_,tracked ⟨oc,hoc,I.freeC x c hc⟩ hs,by simpa using I.len⟩ ⟨c,hs,.inr hc⟩
  ·exact(hs.2 b (Nat.ne_of_lt (Nat.lt_of_lt_of_le (Heap.lt_size e) (I.ok.cab x c hfn hc)))).trans (I.base.keep b o e n hb hx)
  ·obtain⟨sl,e1⟩:=I.base.slot b o e n hb hx;exact⟨sl,(hs.2 b (Nat.ne_of_lt (Nat.lt_of_lt_of_le (Heap.lt_size e) (I.ok.cab x c hfn hc)))).trans e1⟩
  ·obtain⟨o',e1⟩:=I.base.there b o e hx;exact⟨o',(hs.2 b (Nat.ne_of_lt (Nat.lt_of_lt_of_le (Heap.lt_size e) (I.ok.cab x c hfn hc)))).trans e1⟩
  ·by_cases hj:j=i
   ·subst hj;rw[hi]at e1;cases e1;rw[List.getElem?_set_self hiσ]at e2
    cases e2;exact⟨u,r,.inr ⟨.inl hk,c,hc,hc'⟩⟩
   ·rw[List.getElem?_set_ne (Ne.symm hj)]at e2;obtain⟨u',r',q⟩:=hl j y v' e1 e2 e3;refine⟨u',r',?_⟩;rcases q with q |⟨k,c',e,z'⟩
    ·exact .inl q
    ·refine .inr ⟨k,c',e,z'.sameBut hs ?_⟩;rintro rfl;exact hj (zgn hN e1 (I.ok.inj _ _ _ e hc ▸ hi))
  ·by_cases hcc:c'=c
   ·subst hcc;exact⟨_,hc'⟩
   ·obtain⟨w2,z2⟩:=I.cell y c' e;exact⟨w2,z2.sameBut hs hcc⟩
  ·obtain⟨e,n,ne,nf,d⟩:=I.pin p hp;refine⟨(hs.2 p.1 ?_).trans e,n,ne,nf,d⟩;intro q;rw[q,hoc]at e;have q':oc=p.2:=Option.some.inj e;exact d w' (by rw[<-q'];exact hocd)
theorem zag{M:Model}{A:Around}{E:Value->Shared->Prop}{i:Nat}{x:Str}{v:V}{u:Value}{Q:Unit->Shared->Prop}(I:Inv X pins σ H s)(hN:X.N.Nodup)(hi:X.N[i]?=some x)(hx:Loc X.env.scope x)(r:RelV v u)
  (h:∀s',Inv X pins (σ.set i (some v)) H s'->Q () s') (hf:X.fn x=true\/X.env.scope.names.lookup x=some .local:=by first|exact .inl rfl|exact .inr rfl|assumption):wpAny M A (storeName X.env x u) Q E s :=
 za9 I hN hi hx r (λs' I' _=>h s' I') hf
theorem Inv.call'{s':Shared}{ch:List Addr}(I:Inv X pins σ H s)(ho:s'.os=s.os)(u:Un (frs X.stack) ch H H' s.heap s'.heap)(hok:HOk X.prog X.w H' s'.heap)(hg:AllBare s'.gens)
  (hch:∀b∈ch,(b∈X.ex\/X.s₀.heap.objs.size<=b)/\b≠X.env.locals/\(∀x c,X.env.cells.lookup x=some c->c≠b)/\∀p∈X.pn++pins,p.1≠b):Inv X pins σ H' s':=by
 obtain⟨h',g',d',t',o'⟩:=s';have e:o'=s.os:=ho;subst e;exact I.call (g':=g') (t':=t') (d':=d') u hok hg hch
end
abbrev XK:=Value->Option Addr->Hp->Prop
abbrev St:=List (Option V)
abbrev VK:=V->Hp->Prop
abbrev TE:=St->Hp->VK->Prop
abbrev TT:=St->Hp->(Bool->Hp->Prop)->Prop
abbrev TA:=St->Hp->(List V->Hp->Prop)->Prop
structure zh2 where
 nx:St->Hp->Prop
 rt:VK
 bk:St->Hp->Prop:=λ_ _=>False
 ct:St->Hp->Prop:=λ_ _=>False
abbrev TS:=zh2->St->Hp->Prop
def EP(X:Cx)(pins:List (Addr×Obj))(σ:St)(Q:VK)(u:Value)(s':Shared):Prop:=∃v H',Inv X pins σ H' s'/\RelV v u/\Q v H'
def TP(X:Cx)(pins:List (Addr×Obj))(σ:St)(Q:Bool->Hp->Prop)(b:Bool)(s':Shared):Prop:=∃H',Inv X pins σ H' s'/\Q b H'
def AP(X:Cx)(pins:List (Addr×Obj))(σ:St)(Q:List V->Hp->Prop)(us:List Value)(s':Shared):Prop:=∃vs H',Inv X pins σ H' s'/\Vals vs us/\Q vs H'
def SP(X:Cx)(pins:List (Addr×Obj))(D:zh2)(f:Flow)(s':Shared):Prop :=
 match f with
 |.next=>∃σ' H',Inv X pins σ' H' s'/\D.nx σ' H'
 |.brk=>∃σ' H',Inv X pins σ' H' s'/\D.bk σ' H'
 |.cont=>∃σ' H',Inv X pins σ' H' s'/\D.ct σ' H'
 |.ret u=>∃v σ' H',Inv X pins σ' H' s'/\RelV v u/\D.rt v H'
def PE(X:Cx)(e:Expr)(t:TE):Prop :=
 ∀(pins:List (Addr×Obj)) (s:Shared) (σ:St) (H:Hp) (Q:VK),Inv X pins σ H s->t σ H Q->wpAny (model X.prog X.w) X.A (eval e X.env) (EP X pins σ Q) X.xe s
def PT(X:Cx)(e:Expr)(t:TT):Prop :=
 ∀(pins:List (Addr×Obj)) (s:Shared) (σ:St) (H:Hp) (Q:Bool->Hp->Prop),Inv X pins σ H s->t σ H Q->wpAny (model X.prog X.w) X.A (isTrue e X.env (eval e X.env)) (TP X pins σ Q) X.xe s
def PW(X:Cx)(e:Expr)(t:TT):Prop :=
 ∀(whole:Sem Value) (pins:List (Addr×Obj)) (s:Shared) (σ:St) (H:Hp) (Q:Bool->Hp->Prop),Inv X pins σ H s->t σ H Q->wpAny (model X.prog X.w) X.A (isTrue e X.env whole) (TP X pins σ Q) X.xe s
theorem PW.pt{X:Cx}{e:Expr}{t:TT}(h:PW X e t):PT X e t:=h _
def PA(X:Cx)(es:List Expr)(t:TA):Prop :=
 ∀(pos:Pos) (pins:List (Addr×Obj)) (s:Shared) (σ:St) (H:Hp) (Q:List V->Hp->Prop),Inv X pins σ H s->t σ H Q->wpAny (model X.prog X.w) X.A (spliced (backTo pos (starEach es X.env))) (AP X pins σ Q) X.xe s
def PS(X:Cx)(st:Stmt)(t:TS):Prop :=
 ∀(pins:List (Addr×Obj)) (s:Shared) (σ:St) (H:Hp) (D:zh2),Inv X pins σ H s->t D σ H->wpAny (model X.prog X.w) X.A (exec st X.env) (SP X pins D) X.xe s
def PSs(X:Cx)(st:List Stmt)(t:TS):Prop :=
 ∀(pins:List (Addr×Obj)) (s:Shared) (σ:St) (H:Hp) (D:zh2),Inv X pins σ H s->t D σ H->wpAny (model X.prog X.w) X.A (execs st X.env) (SP X pins D) X.xe s
theorem thn{α:Type}{t:Sem α}{Q Q':α->Shared->Prop}{M:Model}{A:Around}{E:Value->Shared->Prop}{s:Shared}(h:wpAny M A t Q E s)(hQ:∀a s,Q a s->Q' a s):wpAny M A t Q' E s:=wpAny_mono h hQ λ_ _ x=>x
section
variable {X:Cx}
def zug(i:Nat):TE:=λσ H Q=>∃v,σ[i]?=some (some v)/\Q v H
def tC(v:V):TE:=λ_ H Q=>Q v H
theorem kc{i:Nat}{x:Str}{pos:Pos}(hN:X.N[i]?=some x)(hv:Vis X.env.scope x)(hd:(x ==("__debug__" : Str))=false:=by decide)(hcd:(x ==("__classdict__" : Str))=false:=by decide):PE X (.Name x pos) (zug i):=by
 intro pins s σ H Q I h;obtain⟨v,e,h⟩:=h;obtain⟨m,hn,hl⟩:=I.loc;obtain⟨u,r,l⟩:=hl i x v hN e hv;have fin:EP X pins σ Q u s:=⟨v,H,I,r,h⟩
 rcases l with⟨hk,hm⟩ |⟨hk,c,hc,hcell⟩
 ·exact wpAny_Name (wpAny_loadName_local I.ok.kind hk hn hm fin) hd
 ·rcases hk with hk|hk
  ·exact wpAny_Name (wpAny_loadName_cell I.ok.kind hk hc hcell fin) hd
  ·exact wpAny_Name (wpAny_loadName_free I.ok.kind hk hc hcell fin hcd) hd
theorem ww{i j pos}:PE X (.Constant (.int i) j pos) (tC (.int i)):=λ_ _ _ H _ I h=>wpAny_Constant_int ⟨.int i,H,I.tok _,⟨_,rfl⟩,h⟩
theorem zuh{b j pos}:PE X (.Constant (.bool b) j pos) (tC (.bl b)):=λ_ _ _ H _ I h=>Constant_bool ⟨.bl b,H,I,rfl,h⟩
theorem zrs{j pos}:PE X (.Constant .none j pos) (tC .non):=λ_ _ _ H _ I h=>Constant_none ⟨.non,H,I,rfl,h⟩
theorem zrt{x j pos}:PE X (.Constant (.str x) j pos) (tC (.str x)):=λ_ _ _ H _ I h=>Calls.Constant_str ⟨.str x,H,I.tok _,⟨_,rfl⟩,h⟩
def Gl(X:Cx)(x:Str):Prop:=X.env.kindOf x=some .globalImplicit
theorem ze3{E:Value->Shared->Prop}{pins:List (Addr×Obj)}{s:Shared}{σ:St}{H:Hp}{x:Str}{u:Value}{pos:Pos}{Q:Value->Shared->Prop}(I:Inv X pins σ H s)(hg:Gl X x)(hm:X.mg x=some u)(h:Q u s)
  (hd:(x ==("__debug__" : Str))=false:=by decide):wpAny (model X.prog X.w) X.A (eval (.Name x pos) X.env) Q E s :=
 Calls.Name_function_global I.ok.kind hg (Calls.loadGlobal_global (by rw[I.ok.glob];exact I.mod.glob.keeps I.bk) hm h) hd
theorem qo{E:Value->Shared->Prop}{pins:List (Addr×Obj)}{s:Shared}{σ:St}{H:Hp}{x:Str}{u:Value}{pos:Pos}{Q:Value->Shared->Prop}(I:Inv X pins σ H s)(hg:Gl X x)(hm:X.mg x=none)(hv:bootBuiltins x=some u)(h:Q u s)
  (hn:x ≠ "__name__" := by decide) (hd:(x ==("__debug__" : Str))=false:=by decide):wpAny (model X.prog X.w) X.A (eval (.Name x pos) X.env) Q E s:=by
 obtain⟨mb,h1,h2⟩:=I.mod.blt;exact Calls.Name_function_global I.ok.kind hg (Calls.loadGlobal_builtin (by rw[I.ok.glob];exact I.mod.glob.keeps I.bk) hm (by rw[I.ok.blt];exact h1.keeps I.bk) ((h2 x hn).trans hv) h) hd
theorem zor{x:Str}{v:V}{u:Value}{pos:Pos}(hg:Gl X x)(hm:X.mg x=some u)(r:RelV v u)(hd:(x ==("__debug__" : Str))=false:=by decide):PE X (.Name x pos) (tC v) :=
 λ_ _ _ H _ I h=>ze3 I hg hm ⟨v,H,I,r,h⟩ hd
theorem zos{x:Str}{v:V}{u:Value}{pos:Pos}(hg:Gl X x)(hm:X.mg x=none)(hv:bootBuiltins x=some u)(r:RelV v u)(hn:x ≠ "__name__" := by decide)(hd:(x ==("__debug__" : Str))=false:=by decide):PE X (.Name x pos) (tC v) :=
 λ_ _ _ H _ I h=>qo I hg hm hv ⟨v,H,I,r,h⟩ hn hd
variable {a b:Expr}{ta tb:TE}{pos:Pos}
variable {tA tB':TT}{rest:List Expr}
def zv6(t u:TT):TT:=λσ H Q=>t σ H λc H1=>if c=true then u σ H1 Q else Q false H1
theorem zot(ha:PT X a tA):PW X (.BoolOp .And [a] pos) tA:=by
 intro wh pins s σ H Q I h;refine isTrue_and (thn (ha pins s σ H Q I h) λc s1 e=>?_)
 cases c with
 |true=>exact isTrue_and_nil e
 |false=>exact e
theorem zru(ha:PT X a tA)(hb:PW X (.BoolOp .And (b::rest) pos) tB'):PW X (.BoolOp .And (a::b::rest) pos) (zv6 tA tB'):=by
 intro wh pins s σ H Q I h;refine isTrue_and (thn (ha pins s σ H _ I h) λc s1 ⟨H1,I1,q1⟩=>?_)
 cases c with
 |true=>exact hb wh pins s1 σ H1 Q I1 q1
 |false=>exact⟨H1,I1,q1⟩
def zui(ta:TE):TE:=λσ H Q=>ta σ H λx H1=>∃c,x=.bl c/\Q (.bl (!c)) H1
theorem zrv(ha:PE X a ta):PE X (.UnaryOp .Not a pos) (zui ta):=by
 intro pins s σ H Q I h;refine UnaryOp_ (thn (ha pins s σ H _ I h) λv s1 ⟨x,H1,I1,r1,q1⟩=>?_);obtain⟨c,rfl,q1⟩:=q1
 cases r1;exact not_of (wpAny_truthy_bool ⟨.bl (!c),H1,I1,rfl,q1⟩)
end
def SqL(K:PySem.W.Frag)(H:Hp)(a:Addr)(xs:List V):Prop :=
 Rd H a (.lst xs) \/
  ∃(o:Obj) (its:Array Value) (n:Nat),K.lookup a=some o/\o.cls=.type "list" /\ o.dict=none/\o.data=.seq its n/\its.size<=sizeLine/\Vals xs its.toList
def SqT(K:PySem.W.Frag)(H:Hp)(a:Addr)(xs:List V):Prop :=
 Rd H a (.tup xs) \/
  ∃(o:Obj) (its:Array Value) (n:Nat),K.lookup a=some o/\o.cls=.type "tuple" /\ o.dict=none/\o.data=.seq its n/\its.size<=sizeLine/\Vals xs its.toList
def zv7:Value->Option V
 |.none=>some .non
 |.bool b=>some (.bl b)
 |.int i _=>some (.int i)
 |.str x _=>some (.str x)
 |.bytes b _=>some (.byt b)
 |.float b _=>some (.flt b)
 |.ref a=>some (.ref a)
 |.type n=>some (.ty n)
 |_=>none
theorem RelV.abs{x:V}{u:Value}(r:RelV x u):zv7 u=some x:=by
 cases x with
 |non=>cases r;rfl
 |bl _=>cases r;rfl
 |int _=>obtain⟨t,rfl⟩:=r;rfl
 |str _=>obtain⟨t,rfl⟩:=r;rfl
 |byt _=>obtain⟨t,rfl⟩:=r;rfl
 |flt _=>obtain⟨t,rfl⟩:=r;rfl
 |ref _=>cases r;rfl
 |ty _=>cases r;rfl
theorem RelV.inj{x y:V}{u:Value}(r:RelV x u)(q:RelV y u):x=y:=Option.some.inj (r.abs.symm.trans q.abs)
theorem Vals.inj{xs ys:List V}{us:List Value}(h:Vals xs us)(h':Vals ys us):xs=ys:=by
 induction h generalizing ys with
 |nil=>cases h';rfl
 |cons r t ih=>
  cases h' with
  |cons r' t'=>rw[r.inj r',ih t']
section
variable {X:Cx}{pins:List (Addr×Obj)}{σ:St}{H:Hp}{s:Shared}{a:Addr}{xs ys:List V}
theorem SqL.of{K:PySem.W.Frag}(h:H a=some (.lst xs)):SqL K H a xs:=.inl (.inl h)
theorem SqT.of{K:PySem.W.Frag}(h:H a=some (.tup xs)):SqT K H a xs:=.inl (.inl h)
theorem Inv.list(I:Inv X pins σ H s)(h:SqL X.K H a xs):∃its:List Value,Vals xs its/\PlainL s.heap a its.toArray/\xs.length<=sizeLine:=by
 rcases h with h |⟨o,its,n,hk,hc,hd,hs,hz,r⟩
 ·obtain⟨z,its,n,r,e⟩:=h.ok I.hok;exact⟨its,r,⟨_,n,e,rfl,rfl,rfl⟩,z⟩
 ·refine⟨its.toList,r,⟨o,n,I.kIn a o hk,hc,hd,by simpa using hs⟩,?_⟩;have e:=r.length;simp only[Array.length_toList]at e;omega
theorem Inv.tupleD(I:Inv X pins σ H s)(h:SqT X.K H a xs):∃its:List Value,Vals xs its/\TupD s.heap a its.toArray/\xs.length<=sizeLine:=by
 rcases h with h |⟨o,its,n,hk,hc,hd,hs,hz,r⟩
 ·obtain⟨z,its,r,p⟩:=h.ok I.hok;exact⟨its,r,p,z⟩
 ·refine⟨its.toList,r,⟨o,I.kIn a o hk,hc,⟨n,by simpa using hs⟩,hd⟩,?_⟩;have e:=r.length;simp only[Array.length_toList]at e;omega
theorem Inv.tuple(I:Inv X pins σ H s)(h:SqT X.K H a xs):∃its:List Value,Vals xs its/\IsTup s.heap a its.toArray/\xs.length<=sizeLine:=by
 obtain⟨its,r,p,z⟩:=I.tupleD h;exact⟨its,r,p.isTup,z⟩
theorem Inv.list_inj(I:Inv X pins σ H s)(h:SqL X.K H a xs)(h':SqL X.K H a ys):xs=ys:=by
 obtain⟨its,r,⟨o,n,e,_,_,d⟩,_⟩:=I.list h;obtain⟨its',r',⟨o',n',e',_,_,d'⟩,_⟩:=I.list h';rw[e]at e';cases e';rw[d]at d';injection d' with d1 _
 have:its=its':=by simpa using congrArg Array.toList d1
 subst this;exact r.inj r'
theorem Inv.tuple_inj(I:Inv X pins σ H s)(h:SqT X.K H a xs)(h':SqT X.K H a ys):xs=ys:=by
 obtain⟨its,r,⟨o,e,_,n,d⟩,_⟩:=I.tuple h;obtain⟨its',r',⟨o',e',_,n',d'⟩,_⟩:=I.tuple h';rw[e]at e';cases e';rw[d]at d';injection d' with d1 _
 have:its=its':=by simpa using congrArg Array.toList d1
 subst this;exact r.inj r'
end
abbrev Cx.wish(X:Cx)(E:Value->Shared->Prop):Cx:={ X with xe:=E }
abbrev Cx.nox(X:Cx):Cx:=X.wish λ_ _=>False
theorem Cx.Ok.wish{X:Cx}(ok:X.Ok)(E:Value->Shared->Prop):(X.wish E).Ok :=
 ⟨ok.mod,ok.kind,ok.glob,ok.blt,ok.above,ok.inj,ok.has,ok.cab,ok.hd,ok.frames,ok.stk,ok.exf,ok.bs,ok.bsz,ok.noex,ok.exfs,ok.funs,ok.frf⟩
theorem Cx.Ok.unwish{X:Cx}{E:Value->Shared->Prop}(ok:(X.wish E).Ok):X.Ok :=
 ⟨ok.mod,ok.kind,ok.glob,ok.blt,ok.above,ok.inj,ok.has,ok.cab,ok.hd,ok.frames,ok.stk,ok.exf,ok.bs,ok.bsz,ok.noex,ok.exfs,ok.funs,ok.frf⟩
section
variable {X:Cx}{pins:List (Addr×Obj)}{σ:St}{H:Hp}{s:Shared}{E:Value->Shared->Prop}
theorem Inv.wish(I:Inv X pins σ H s)(E:Value->Shared->Prop):Inv (X.wish E) pins σ H s:=⟨I.ok.wish E,I.os,I.bare,I.base,I.loc,I.cell,I.free,I.freeC,I.pin,I.hok,I.len⟩
theorem Inv.unwish(I:Inv (X.wish E) pins σ H s):Inv X pins σ H s:=⟨I.ok.unwish,I.os,I.bare,I.base,I.loc,I.cell,I.free,I.freeC,I.pin,I.hok,I.len⟩
theorem SP.unwish{D:zh2}{f:Flow}{s':Shared}(h:SP (X.wish E) pins D f s'):SP X pins D f s':=by
 cases f with
 |next=>obtain⟨σ',H',I,q⟩:=h;exact⟨σ',H',I.unwish,q⟩
 |brk=>obtain⟨σ',H',I,q⟩:=h;exact⟨σ',H',I.unwish,q⟩
 |cont=>obtain⟨σ',H',I,q⟩:=h;exact⟨σ',H',I.unwish,q⟩
 |ret u=>obtain⟨v,σ',H',I,r,q⟩:=h;exact⟨v,σ',H',I.unwish,r,q⟩
theorem PE.nox{e:Expr}{t:TE}(h:PE X.nox e t):PE X e t:=λpins s σ H Q I hw=>
 wpAny_mono (h pins s σ H Q (I.wish _) hw) (λ_ _ ⟨v,H',I',r,q⟩=>⟨v,H',I'.unwish,r,q⟩) λ_ _ z=>False.elim z
theorem PSs.nox{st:List Stmt}{t:TS}(h:PSs X.nox st t):PSs X st t:=λpins s σ H D I hw=>
 wpAny_mono (h pins s σ H D (I.wish _) hw) (λ_ _ q=>q.unwish) λ_ _ z=>False.elim z
end
section
variable {X:Cx}{st:Stmt}{rest:List Stmt}{t u:TS}{e:Expr}{te:TE}{pos:Pos}
def zuj:TS:=λD σ H=>D.nx σ H
def zv8(t u:TS):TS:=λD σ H=>t { D with nx:=u D } σ H
theorem zou:PSs X [] zuj:=λ_ _ σ H _ I h=>wpAny_execs_nil ⟨σ,H,I,h⟩
theorem zah(h1:PS X st t)(h2:PSs X rest u):PSs X (st::rest) (zv8 t u):=by
 intro pins s σ H D I h;refine wpAny_execs_cons (thn (h1 pins s σ H { D with nx:=u D } I h) λf s1 q=>?_)
 cases f with
 |next=>
  obtain⟨σ',H',I',q⟩:=q;exact h2 pins s1 σ' H' D I' q
 |ret v=>exact q
 |brk=>exact q
 |cont=>exact q
theorem zjq(h1:PS X st t):PSs X [st] t:=by
 intro pins s σ H D I h;refine wpAny_execs_cons (thn (h1 pins s σ H D I h) λf s1 q=>?_)
 cases f with
 |next=>exact wpAny_execs_nil q
 |ret v=>exact q
 |brk=>exact q
 |cont=>exact q
theorem Inv.quiet{pins:List (Addr×Obj)}{σ:St}{H:Hp}{s:Shared}(I:Inv X pins σ H s):interactive X.env=false:=by simp[interactive,I.ok.kind]
def zuk(te:TE):TS:=λD σ H=>te σ H λ_ H1=>D.nx σ H1
theorem zov(he:PE X e te)(hs:swapsWith e none pos.line X.env=pure false:=by rfl):PS X (.Expr e pos) (zuk te):=by
 intro pins s σ H D I h;exact wpAny_Expr_any (thn (he pins s σ H _ I h) λv s1 ⟨x,H1,I1,r1,q1⟩=>⟨σ,H1,I1,q1⟩) I.quiet hs
def zv9(te:TE):TS:=λD σ H=>te σ H D.rt
theorem ze4(he:PE X e te):PS X (.Return (some e) pos) (zv9 te):=by
 intro pins s σ H D I h;exact wpAny_Return_some (thn (he pins s σ H _ I h) λv s1 ⟨x,H1,I1,r1,q1⟩=>⟨x,σ,H1,I1,r1,q1⟩)
def zwa(c:TT)(t u:TS):TS:=λD σ H=>c σ H λb H1=>if b=true then t D σ H1 else u D σ H1
theorem zul{c:Expr}{a b:List Stmt}{tc:TT}(hc:PT X c tc)(ha:PSs X a t)(hb:PSs X b u):PS X (.If c a b pos) (zwa tc t u):=by
 intro pins s σ H D I h;refine wpAny_If (thn (hc pins s σ H _ I h) λd s1 ⟨H1,I1,q1⟩=>?_)
 cases d with
 |true=>exact ha pins s1 σ H1 D I1 q1
 |false=>exact hb pins s1 σ H1 D I1 q1
end
abbrev TG:=V->St->Hp->(St->Hp->Prop)->Prop
abbrev TGs:=List V->St->Hp->(St->Hp->Prop)->Prop
def PG(X:Cx)(target:Expr)(t:TG):Prop :=
 ∀(pins:List (Addr×Obj)) (s:Shared) (σ:St) (H:Hp) (v:V) (u:Value) (Q:St->Hp->Prop),Inv X pins σ H s->RelV v u->t v σ H Q ->
  wpAny (model X.prog X.w) X.A (assign target X.env u) (λ_ s'=>∃σ' H',Inv X pins σ' H' s'/\Q σ' H') X.xe s
def PGs(X:Cx)(ts:List Expr)(t:TGs):Prop :=
 ∀(pins:List (Addr×Obj)) (s:Shared) (σ:St) (H:Hp) (vs:List V) (us:List Value) (Q:St->Hp->Prop),Inv X pins σ H s->Vals vs us->t vs σ H Q ->
  wpAny (model X.prog X.w) X.A (assignInOrder ((assignEach ts X.env).map (·.2)) us) (λ_ s'=>∃σ' H',Inv X pins σ' H' s'/\Q σ' H') X.xe s
abbrev zrw:=V->V->V->Hp->(Hp->Prop)->Prop
def zum(X:Cx)(t:zrw):Prop :=
 ∀(pins:List (Addr×Obj)) (s:Shared) (σ:St) (H:Hp) (o i v:V) (ov iv u:Value) (Q:Hp->Prop),Inv X pins σ H s->RelV o ov->RelV i iv->RelV v u->t o i v H Q ->
  wpAny (model X.prog X.w) X.A (setItem ov iv u) (λ_ s'=>∃H',Inv X pins σ H' s'/\Q H') X.xe s
section
variable {X:Cx}{pos:Pos}
def zma(i:Nat):TG:=λv σ H Q=>Q (σ.set i (some v)) H
def zwb(to ti:TE)(t:zrw):TG:=λv σ H Q=>to σ H λo H1=>ti σ H1 λi H2=>t o i v H2 λH3=>Q σ H3
theorem zh3{o i:Expr}{to ti:TE}{t:zrw}(ho:PE X o to)(hi:PE X i ti)(hs:zum X t)
  (ha:∀v,assign (.Subscript o i pos) X.env v=(do
   let ov <-holding [v] (eval o X.env)
   let iv <-holding [v,ov] (eval i X.env)
   standAt pos
   holding [v,ov,iv] (setItem ov iv v)
   release [v,ov,iv] []):=by intro _;rfl):PG X (.Subscript o i pos) (zwb to ti t):=by
 intro pins s σ H v u Q I r h;rw[ha];refine wpAny_bind (wpAny_holding (thn (ho pins s σ H _ I h) λov s1 ⟨x,H1,I1,r1,q1⟩=>?_));refine wpAny_bind (wpAny_holding (thn (hi pins s1 σ H1 _ I1 q1) λiv s2 ⟨y,H2,I2,r2,q2⟩=>?_));refine wpAny_bind (wpAny_standAt (wpAny_bind (wpAny_holding (thn (hs pins s2 σ H2 x y v ov iv u _ I2 r1 r2 r q2) λ_ s3 ⟨H3,I3,q3⟩=>?_))));exact wpAny_release ⟨σ,H3,I3,q3⟩
def zow(te:TE)(g:TG):TS:=λD σ H=>te σ H λx H1=>g x σ H1 D.nx
theorem ze5{tg e:Expr}{te:TE}{g:TG}(he:PE X e te)(hg:PG X tg g)(hs:swapsWithSole [tg] e pos.line X.env=pure false:=by rfl)(hw:swappedStores [tg] e X.env=pure none:=by rfl)
  (h1:(assignEach [tg] X.env).map (·.2) = [assign tg X.env]:=by rfl):PS X (.Assign [tg] e pos) (zow te g):=by
 intro pins s σ H D I h;refine wpAny_Assign_stores (thn (he pins s σ H _ I h) λv s1 ⟨x,H1,I1,r1,q1⟩=>?_) hs hw;rw[h1];exact thn (hg pins s1 σ H1 x v _ I1 r1 q1) λ_ s2 q=>q
theorem ze6{i:Nat}{x:Str}{e:Expr}{te:TE}{pos':Pos}(hN:X.N.Nodup)(hi:X.N[i]?=some x)(hx:Loc X.env.scope x)(he:PE X e te)(hs:swapsWith e (some (.Name x pos')) pos.line X.env=pure false:=by rfl)(hf:X.fn x=true\/X.env.scope.names.lookup x=some .local:=by first|exact .inl rfl|exact .inr rfl|assumption):
  PS X (.Assign [.Name x pos'] e pos) (zow te (zma i)):=by
 intro pins s σ H D I h;refine wpAny_Assign_Name (thn (he pins s σ H _ I h) λv s1 ⟨y,H1,I1,r1,q1⟩=>?_) hs;exact zag I1 hN hi hx r1 (λs2 I2=>⟨_,H1,I2,q1⟩) hf
def zwc(i j:Nat)(ta:TA):TS:=λD σ H=>ta σ H λvs H1=>∃v w,vs = [v,w]/\D.nx ((σ.set i (some v)).set j (some w)) H1
theorem zrx{i j:Nat}{x y:Str}{a b:Expr}{ta:TA}{px py pt:Pos}{kt k2 pt2}(hc:X.calm=true)(hN:X.N.Nodup)(hi:X.N[i]?=some x)(hj:X.N[j]?=some y)(hij:i≠j)
  (hx:X.env.scope.names.lookup x=some .local) (hy:X.env.scope.names.lookup y=some .local) (ha:PA X [a,b] ta)
  (hw:swappedStores [.Tuple [.Name x px,.Name y py] kt pt] (.Tuple [a,b] k2 pt2) X.env=pure (some [x,y]))
  (hs:swapsWithSole [.Tuple [.Name x px,.Name y py] kt pt] (.Tuple [a,b] k2 pt2) pos.line X.env=pure false:=by rfl) :
  PS X (.Assign [.Tuple [.Name x px,.Name y py] kt pt] (.Tuple [a,b] k2 pt2) pos) (zwc i j ta):=by
 intro pins s σ H D I h;rw[exec_Assign_arm];refine wpAny_bind (wpAny_standAt ?_);rw[hs];refine wpAny_bind (wpAny_pure ?_);rw[if_neg (by decide)];refine wpAny_bind (Tuple_ (thn (ha _ pins s σ H _ I h) λus s1 ⟨vs,H1,I1,r1,q1⟩=>?_));obtain⟨v,w,e1,q1⟩:=q1;subst e1;obtain⟨u1,u2,rfl,rv,rw'⟩:∃u1 u2,us = [u1,u2]/\RelV v u1/\RelV w u2:=by
  cases r1 with
  |cons p q=>
   cases q with
   |cons p' q'=>
    cases q';exact⟨_,_,rfl,p,p'⟩
 refine wpAny_newObj_type ?_ (by show 2<=sizeLine;decide);have I2:Inv X pins σ H1 { s1 with heap:=s1.heap.push { cls:=.type "tuple",data:=.seq [u1,u2].toArray } }:=I1.kept (t':=s1.toks) λb o e=>Heap.get?_push_of_some _ e;rw[hw];refine wpAny_bind (wpAny_pure ?_);show wpAny (model X.prog X.w) X.A (do rule "assign.swapped-stores";let items <-unpackItems (.ref s1.heap.objs.size) 2 none;assignInOrder [λv=>bindName X.env y v,λv=>bindName X.env x v] items.reverse;pure Flow.next) _ _ _;refine wpAny_bind (wpAny_rule (wpAny_bind (unpackItems_tuple (items:=#[u1,u2]) (I.ok.hd hc) (IsTup.new s1.heap _) λh' hx'=>?_)));have I3:=I2.kept (h':=h') (t':=s1.toks) λb o e=>hx' b o (Nat.ne_of_lt (Heap.lt_size e)) e;show wpAny _ _ (assignInOrder [λv=>bindName X.env y v,λv=>bindName X.env x v] [u2,u1] >>= λ_=>pure Flow.next) _ _ _;refine wpAny_bind (assignInOrder_cons (wpAny_bindName (zag I3 hN hj (.inl hy) rw' (λs2 I4=>?_) (.inr hy))));refine assignInOrder_cons (wpAny_bindName (zag I4 hN hi (.inl hx) rv (λs3 I5=>assignInOrder_nil (wpAny_pure ?_)) (.inr hx)));rw[List.set_comm _ _ (Ne.symm hij)]at I5;exact⟨_,H1,I5,q1⟩
end
section
variable {X:Cx}{pos:Pos}
end
structure It where
 go:Nat->Hp->Prop
 yld:Nat->Hp->V->Hp->Prop
 stop:Nat->Hp->Prop
def FpOk(X:Cx)(pins:List (Addr×Obj))(H:Hp)(b:Addr):Prop :=
 H b=none/\b≠X.env.locals/\b∉X.fs/\(b∈X.ex\/X.s₀.heap.objs.size<=b)/\(∀x c,X.env.cells.lookup x=some c->c≠b)/\∀p∈X.pn++pins,p.1≠b
theorem Inv.fpOk{X:Cx}{pins:List (Addr×Obj)}{σ:St}{H H':Hp}{s:Shared}{b:Addr}(I:Inv X pins σ H s)(hb:s.heap.objs.size<=b)(hn:H' b=none):FpOk X pins H' b:=by
 refine⟨hn,Nat.ne_of_gt (Nat.lt_of_lt_of_le I.lt hb),I.nofs hb,.inr (Nat.le_trans I.sz hb),λx c e z=>?_,λp hp z=>?_⟩
 ·obtain⟨v,q⟩:=I.cell x c e;exact absurd (Nat.lt_of_lt_of_le q.lt (by rw[z];exact hb)) (Nat.lt_irrefl _)
 ·exact absurd (Nat.lt_of_lt_of_le (Heap.lt_size (I.pin p hp).1) (by rw[z];exact hb)) (Nat.lt_irrefl _)
structure ze7(P:Program)(w:World)(K:PySem.W.Frag)(tg:Expr)(J:It)(fp:List Addr)(it:Addr)(tn:Nat->Heap->Prop):Prop where
 mem:it∈fp
 obj:∀i h,tn i h->∀b∈fp,∃o,h.get? b=some o/\∀v,o.data ≠ .cell v
 keep:∀i h h',tn i h->(∀b∈fp,∀o,h.get? b=some o->h'.get? b=some o)->tn i h'
 item:∀(X:Cx),X.prog=P->X.w=w->X.K=K->X.calm=true->∀(i:Nat) (pins:List (Addr×Obj)) (s:Shared) (σ:St) (H:Hp) (E:Value->Shared->Prop),Inv X pins σ H s->(∀b∈fp,FpOk X pins H b)->tn i s.heap->J.go i H ->
  wpAny (model P w) X.A (pyNext (.ref it)) (λr s1=>∃u,r=some u /\
   wpAny (model P w) X.A (letOwnedTupleGo tg (.ref it) u) (λ_ s2=>∃x H',Inv X pins σ H' s2/\RelV x u/\J.yld i H x H'/\tn (i+1) s2.heap/\∀b∈fp,H' b=none) E s1) E s
 done:∀(X:Cx),X.prog=P->X.w=w->X.K=K->X.calm=true->∀(i:Nat) (pins:List (Addr×Obj)) (s:Shared) (σ:St) (H:Hp) (E:Value->Shared->Prop),Inv X pins σ H s->(∀b∈fp,FpOk X pins H b)->tn i s.heap->J.stop i H ->
  wpAny (model P w) X.A (pyNext (.ref it)) (λr s1=>r=none/\Inv X pins σ H s1) E s
 self:∀(A:Around) (i:Nat) (s:Shared) (Q:Value->Shared->Prop) (E:Value->Shared->Prop),tn i s.heap->Q (.ref it) s->wpAny (model P w) A (pyIter (.ref it)) Q E s
abbrev TI:=St->Hp->(It->Hp->Prop)->Prop
def PIE(X:Cx)(pins:List (Addr×Obj))(σ:St)(tg:Expr)(R:It->Hp->Prop)(itv:Value)(s2:Shared):Prop :=
 ∃(it:Addr) (fp:List Addr) (tn:Nat->Heap->Prop) (J:It) (H':Hp),itv=.ref it/\Inv X pins σ H' s2/\ze7 X.prog X.w X.K tg J fp it tn/\tn 0 s2.heap/\(∀b∈fp,FpOk X pins H' b)/\R J H'
def PI(X:Cx)(tg iter:Expr)(wi:TI):Prop :=
 ∀(pins:List (Addr×Obj)) (s:Shared) (σ:St) (H:Hp) (R:It->Hp->Prop),Inv X pins σ H s->wi σ H R ->
  wpAny (model X.prog X.w) X.A (eval iter X.env) (λv s1=>wpAny (model X.prog X.w) X.A (pyIter v) (PIE X pins σ tg R) X.xe s1) X.xe s
theorem zjr{M:Model}{A:Around}{E:Value->Shared->Prop}{s:Shared}{tg:Expr}{it:Addr}{u:Value}{o:Obj}{n:String}{vs:Array Value}{Q:Unit->Shared->Prop}(ho:s.heap.get? it=some o)(hc:o.cls=.type n)(hd:o.data=.fields vs)
  (hn : ["enumerate", "zip", "dict_itemiterator", "dict_reverseitemiterator", "odict_iterator", "itertools.zip_longest", "itertools.pairwise"].contains n=false) (hQ:Q () s):wpAny M A (letOwnedTupleGo tg (.ref it) u) Q E s:=by
 unfold letOwnedTupleGo
 cases tg <;> first
  |exact wpAny_pure hQ
  |(cases u <;> first
    |exact wpAny_pure hQ
    |(refine wpAny_bind (wpAny_load ho ?_);rw[hc,hd];show wpAny M A (if (["enumerate", "zip", "dict_itemiterator", "dict_reverseitemiterator", "odict_iterator", "itertools.zip_longest", "itertools.pairwise"].contains n && vs[0]? == some (rawInt _))=true then _ else _) Q E s;rw[if_neg (by intro h;rw[hn,Bool.false_and]at h;cases h)];exact wpAny_pure hQ))
def Itl(K:PySem.W.Frag)(a:Addr):It :=
 ⟨λi H=>∃xs x,SqL K H a xs/\xs[i]?=some x,λi H x H'=>H'=H/\∀xs,SqL K H a xs->xs[i]?=some x,λi H=>∃xs,SqL K H a xs/\xs.length<=i⟩
def Itt(K:PySem.W.Frag)(a:Addr):It :=
 ⟨λi H=>∃xs x,SqT K H a xs/\xs[i]?=some x,λi H x H'=>H'=H/\∀xs,SqT K H a xs->xs[i]?=some x,λi H=>∃xs,SqT K H a xs/\xs.length<=i⟩
def Itr(lo:Int)(n:Nat):It:=⟨λi _=>i<n,λi H x H'=>H'=H/\x=.int (lo+i),λi _=>n<=i⟩
theorem zk1{P:Program}{w:World}{K:PySem.W.Frag}{tg:Expr}(a it:Addr):ze7 P w K tg (Itl K a) [it] it (λi h=>h.IsListIter it a i) where
 mem:=by simp
 obj:=λi h st b hb=>by
  have e:b=it:=by simpa using hb
  subst e;obtain⟨o,e,c,d⟩:=st;exact⟨o,e,λv z=>by rw[d]at z;cases z⟩
 keep:=λi h h' st k=>st.at λo e=>k it (by simp) o e
 item:=by
  intro X hP hw hK hc i pins s σ H E I hf st hg;subst hP hw hK;obtain⟨xs,x,hq,hx⟩:=hg;obtain⟨its,rv,p,hz⟩:=I.list hq;obtain⟨u,hu,ru⟩:=rv.get hx;obtain⟨f0,f1,f2,f3,f4,f5⟩:=hf it (by simp);refine wpAny_pyNext_list_item st p.isList (x:=u) (by simpa using hu) λh' st' sb=>?_;have I1:Inv X pins σ H { s with heap:=h' }:=I.turned (t':=s.toks) (λb o hb e=>(sb.2 b hb).trans e) f0 f1 f3 f4 f5;obtain⟨o,e,c,d⟩:=id st';exact⟨u,rfl,zjr (s:={ s with heap:=h' }) e c d (by decide) ⟨x,H,I1,ru,⟨rfl,λys hy=>by rw[I.list_inj hy hq];exact hx⟩,st',λb hb=>(hf b hb).1⟩⟩
 done:=by
  intro X hP hw hK hc i pins s σ H E I hf st hg;subst hP hw hK;obtain⟨xs,hq,hx⟩:=hg;obtain⟨its,rv,p,hz⟩:=I.list hq;obtain⟨f0,f1,f2,f3,f4,f5⟩:=hf it (by simp);have hl:=rv.length;exact wpAny_pyNext_list_end (I.ok.hd hc) st p.isList (by simp;omega) λh' eb=>⟨rfl,I.turned (t':=s.toks) (λb o hb e=>eb b o hb e) f0 f1 f3 f4 f5⟩
 self:=λ_ _ _ _ _ st h=>wpAny_pyIter_listiter st h
theorem zh4{P:Program}{w:World}{K:PySem.W.Frag}{tg:Expr}(a it:Addr):ze7 P w K tg (Itt K a) [it] it (λi h=>h.IsTupleIter it a i) where
 mem:=by simp
 obj:=λi h st b hb=>by
  have e:b=it:=by simpa using hb
  subst e;obtain⟨o,e,c,d⟩:=st;exact⟨o,e,λv z=>by rw[d]at z;cases z⟩
 keep:=λi h h' st k=>st.at λo e=>k it (by simp) o e
 item:=by
  intro X hP hw hK hc i pins s σ H E I hf st hg;subst hP hw hK;obtain⟨xs,x,hq,hx⟩:=hg;obtain⟨its,rv,p,hz⟩:=I.tuple hq;obtain⟨u,hu,ru⟩:=rv.get hx;obtain⟨f0,f1,f2,f3,f4,f5⟩:=hf it (by simp);refine wpAny_pyNext_tuple_item st (show s.heap.IsTuple a its.toArray from p) (x:=u) (by simpa using hu) λh' st' sb=>?_;have I1:Inv X pins σ H { s with heap:=h' }:=I.turned (t':=s.toks) (λb o hb e=>(sb.2 b hb).trans e) f0 f1 f3 f4 f5;obtain⟨o,e,c,d⟩:=id st';exact⟨u,rfl,zjr (s:={ s with heap:=h' }) e c d (by decide) ⟨x,H,I1,ru,⟨rfl,λys hy=>by rw[I.tuple_inj hy hq];exact hx⟩,st',λb hb=>(hf b hb).1⟩⟩
 done:=by
  intro X hP hw hK hc i pins s σ H E I hf st hg;subst hP hw hK;obtain⟨xs,hq,hx⟩:=hg;obtain⟨its,rv,p,hz⟩:=I.tuple hq;obtain⟨f0,f1,f2,f3,f4,f5⟩:=hf it (by simp);have hl:=rv.length;exact wpAny_pyNext_tuple_end (I.ok.hd hc) st (show s.heap.IsTuple a its.toArray from p) (by simp;omega) λh' eb=>⟨rfl,I.turned (t':=s.toks) (λb o hb e=>eb b o hb e) f0 f1 f3 f4 f5⟩
 self:=λ_ _ _ _ _ st h=>wpAny_pyIter_tupleiter st h
theorem zh5{P:Program}{w:World}{K:PySem.W.Frag}{tg:Expr}(it:Addr)(lo:Int)(n:Nat):ze7 P w K tg (Itr lo n) [it] it (λi h=>IsRangeIter h it (lo+(i:Nat) * 1) ((n:Int)-(i:Nat)) 1) where
 mem:=by simp
 obj:=λi h st b hb=>by
  have e:b=it:=by simpa using hb
  subst e;exact⟨_,st,λv z=>by
   have z':Data.fields _=Data.cell v:=z
   cases z'⟩
 keep:=λi h h' st k=>k it (by simp) _ st
 item:=by
  intro X hP hw hK hc i pins s σ H E I hf st hg;subst hP hw hK;obtain⟨f0,f1,f2,f3,f4,f5⟩:=hf it (by simp);have W:=Walks.range (prog:=X.prog) (w:=X.w) (I.ok.hd hc) it lo 1 n;refine W.item i s _ _ hg st λv h' tk hv st' kk=>?_;obtain⟨t,rfl⟩:=hv;have I1:Inv X pins σ H { s with heap:=h',toks:=tk }:=I.turned (λb o hb e=>kk b o (by simpa using hb) e) f0 f1 f3 f4 f5;refine⟨_,rfl,zjr (s:={ s with heap:=h',toks:=tk }) (n := "range_iterator") st' rfl rfl (by decide) ⟨.int (lo+i),H,I1,⟨t,?_⟩,⟨rfl,rfl⟩,st',λb hb=>(hf b hb).1⟩⟩;rw[Int.mul_one]
 done:=by
  intro X hP hw hK hc i pins s σ H E I hf st hg;subst hP hw hK;obtain⟨f0,f1,f2,f3,f4,f5⟩:=hf it (by simp);exact wpAny_pyNext_range_end (I.ok.hd hc) st (by have:n<=i:=hg;omega) λh' eb=>⟨rfl,I.turned (t':=s.toks) (λb o hb e=>eb b o hb e) f0 f1 f3 f4 f5⟩
 self:=λ_ _ _ _ _ st h=>wpAny_pyIter_rangeiter st h
section
variable {X:Cx}{tg:Expr}
theorem zmb{pins:List (Addr×Obj)}{σ:St}{H:Hp}{s:Shared}{R:It->Hp->Prop}{E:Value->Shared->Prop}{lo hi:Int}{t u v:Tok}{tk:Nat}(I:Inv X pins σ H s)(h1 : -(2 ^ 62)<=lo)(h2:lo<2 ^ 62)(h3 : -(2 ^ 62)<=hi)(h4:hi<2 ^ 62)
  (q:R (Itr lo (hi-lo).toNat) H):wpAny (model X.prog X.w) X.A (pyIter (.ref s.heap.objs.size)) (PIE X pins σ tg R) E { s with heap:=s.heap.push { cls:=.type "range",data:=.fields #[.int lo t,.int hi u,.int 1 v] },toks:=tk }:=by
 refine wpAny_pyIter_range (IsRange.new ..) (small_one h1 h2 h3 h4) ?_;have I1:Inv X pins σ H { s with heap:=s.heap.push { cls:=.type "range",data:=.fields #[.int lo t,.int hi u,.int 1 v] },toks:=tk }:=I.kept λb o e=>Heap.get?_push_of_some _ e;refine⟨(s.heap.push { cls:=.type "range",data:=.fields #[.int lo t,.int hi u,.int 1 v] }).objs.size,[(s.heap.push { cls:=.type "range",data:=.fields #[.int lo t,.int hi u,.int 1 v] }).objs.size],_,_,H,rfl,
  I1.kept (t':=tk) λb o e=>Heap.get?_push_of_some _ e,zh5 _ lo (hi-lo).toNat,?_,λb hb=>?_,q⟩
 ·have e1:lo+((0:Nat):Int) * 1=lo:=by simp
  have e2:(((hi-lo).toNat:Nat):Int)-((0:Nat):Int)=Builtin.Range.rangeSize lo hi 1:=by rw[rangeSize_one];split <;> omega
  show IsRangeIter _ _ (lo+((0:Nat):Int) * 1) ((((hi-lo).toNat:Nat):Int)-((0:Nat):Int)) 1;rw[e1,e2];exact Heap.get?_push_size _ rfl
 ·have e:b=(s.heap.push { cls:=.type "range",data:=.fields #[.int lo t,.int hi u,.int 1 v] }).objs.size:=by simpa using hb
  subst e;exact I1.fpOk (Nat.le_refl _) (I1.hok.fresh (Nat.le_refl _))
def zun(ta:TA):TI:=λσ H R=>ta σ H λvs H1=>∃j:Int,vs = [.int j]/\-(2 ^ 62)<=j/\j<2 ^ 62/\R (Itr 0 j.toNat) H1
theorem zk2{a:Expr}{ta:TA}{p pos:Pos}(hg:Gl X "range")(hm:X.mg "range" = none)(ha:PA X [a] ta)(hs:starEach [a] X.env = [(false,eval a X.env)]:=by rfl):PI X tg (.Call (.Name "range" p) [a] [] pos) (zun ta):=by
 intro pins s σ H R I h;refine Call_ (qo I hg hm boot_range (PyProof.Rows.callWith_type1 (thn (ha pos pins s σ H _ I h) λus s1 ⟨vs,H1,I1,r1,q1⟩=>?_) hs rfl));obtain⟨j,e,q1,q2,q⟩:=q1;subst e
 cases r1 with
 |cons r rr=>
  cases rr;obtain⟨t,rfl⟩:=r;exact call_range_1 (zmb I1 (by omega) (by omega) q1 q2 (by simpa using q))
def zwd(wi:TI)(g:TG)(tb:TS):TS:=λD σ H=>wi σ H λJ H1=>∃W:Nat->Nat->St->Hp->Prop,(∃m,W 0 m σ H1)/\∀i m σ H,W i m σ H ->
 (J.stop i H/\D.nx σ H)\/(J.go i H/\∃N:St->Hp->Prop,(∀σ' H',N σ' H'->∃m',m' < m/\W (i+1) m' σ' H')/\∀x H',J.yld i H x H'->g x σ H' λσ2 H2=>tb { D with nx:=N,ct:=N,bk:=D.nx } σ2 H2)
def j1(fp:List Addr)(h:Heap):List (Addr×Obj):=fp.filterMap λb=>(h.get? b).map λo=>(b,o)
theorem x9{fp:List Addr}{h:Heap}{b:Addr}{o:Obj}(hb:b∈fp)(e:h.get? b=some o):(b,o)∈j1 fp h:=List.mem_filterMap.mpr ⟨b,hb,by rw[e];rfl⟩
theorem zk3{fp:List Addr}{h:Heap}{p:Addr×Obj}(hp:p∈j1 fp h):p.1∈fp/\h.get? p.1=some p.2:=by
 obtain⟨b,hb,e⟩:=List.mem_filterMap.mp hp
 cases q:h.get? b with
 |none=>rw[q]at e;cases e
 |some o=>
  rw[q]at e;have e':(b,o)=p:=Option.some.inj e;subst e';exact⟨hb,q⟩
theorem Inv.pinned{pins:List (Addr×Obj)}{σ:St}{H:Hp}{s:Shared}{fp:List Addr}(I:Inv X pins σ H s)(hf:∀b∈fp,FpOk X pins H b)(ho:∀b∈fp,∃o,s.heap.get? b=some o/\∀v,o.data ≠ .cell v):Inv X (pins++j1 fp s.heap) σ H s :=
 I.pins_of λp hp=>(List.mem_append.mp hp).elim (λz=>I.pin p (List.mem_append_right _ z)) λz=>by
  obtain⟨hb,e⟩:=zk3 z;obtain⟨f0,f1,f2,_⟩:=hf p.1 hb;obtain⟨o,e',d⟩:=ho p.1 hb;rw[e]at e';cases e';exact⟨e,f0,f1,f2,d⟩
theorem Inv.unpinned{pins pl:List (Addr×Obj)}{σ:St}{H:Hp}{s:Shared}(I:Inv X (pins++pl) σ H s):Inv X pins σ H s:=I.pins_of λp hp=>I.pin p (List.mem_append_right _ (List.mem_append_left _ hp))
theorem zry{iter:Expr}{body:List Stmt}{wi:TI}{g:TG}{tb:TS}{pos:Pos}(hp:PassesOwn (model X.prog X.w) X.A X.env X.xe)(hc:X.calm=true)(hi:PI X tg iter wi)(hg:PG X tg g)(hb:PSs X body tb)
  (hs:∀x,foldedSetIterable iter X.env x=pure x:=by intro _;rfl):PS X (.For tg iter body [] pos) (zwd wi g tb):=by
 intro pins s σ H D I h;refine wpAny_For (thn (hi pins s σ H _ I h) λv s1 h1=>thn h1 λitv s2 h2=>?_) hs;obtain⟨it,fp,tn,J,H2,e,I2,T,st2,f2,W,⟨m0,w0⟩,turn⟩:=h2;subst e
 -- what stays true of the iterator's objects through the loop
 have stat:∀{H':Hp},(∀b∈fp,H' b=none)->∀b∈fp,FpOk X pins H' b:=λhn b hb=>⟨hn b hb,(f2 b hb).2⟩
 refine codeAny_forLoop_any (λn s'=>∃i σ' H',Inv X pins σ' H' s'/\tn i s'.heap/\(∀b∈fp,H' b=none)/\W i n σ' H') ?_ m0 ⟨0,σ,H2,I2,st2,λb hb=>(f2 b hb).1,w0⟩;rintro n s3 ⟨i,σ3,H3,I3,st3,fr3,w3⟩;rcases turn i n σ3 H3 w3 with⟨stop,qn⟩ |⟨go,N,hN,step⟩
 ·refine wpAny_passesOwn hp (thn (T.done X rfl rfl rfl hc i pins s3 σ3 H3 X.xe I3 (stat fr3) st3 stop) λr s4 ⟨hr,I4⟩=>?_);subst hr;exact wpAny_execs_nil ⟨σ3,H3,I4,qn⟩
 ·refine wpAny_passesOwn hp (thn (T.item X rfl rfl rfl hc i pins s3 σ3 H3 X.xe I3 (stat fr3) st3 go) λr s4 ⟨u,hr,h4⟩=>?_);subst hr;refine wpAny_passesOwn hp (thn h4 λ_ s5 ⟨x,H5,I5,r5,y5,st5,fr5⟩=>?_);have I5':=I5.pinned (stat fr5) (T.obj _ _ st5);refine wpAny_passesOwn hp (thn (hg _ s5 σ3 H5 x u _ I5' r5 (step x H5 y5)) λ_ s6 ⟨σ6,H6,I6,q6⟩=>?_);refine wpAny_passesOwn hp (thn (hb _ s6 σ6 H6 _ I6 q6) λf s7 q7=>?_)
  have again:∀{σ7:St}{H7:Hp},Inv X (pins++j1 fp s5.heap) σ7 H7 s7->N σ7 H7->∃m,m<n/\∃i σ' H',Inv X pins σ' H' s7/\tn i s7.heap/\(∀b∈fp,H' b=none)/\W i m σ' H':=λ{σ7 H7} I7 n7=>by
   obtain⟨m',hm,w7⟩:=hN σ7 H7 n7;refine⟨m',hm,i+1,σ7,H7,I7.unpinned,T.keep _ _ _ st5 λb hb o e=>(I7.pin (b,o) (List.mem_append_right _ (List.mem_append_right _ (x9 hb e)))).1,λb hb=>?_,w7⟩;obtain⟨o,e,d⟩:=T.obj _ _ st5 b hb;exact(I7.pin (b,o) (List.mem_append_right _ (List.mem_append_right _ (x9 hb e)))).2.1
  cases f with
  |next=>obtain⟨σ7,H7,I7,n7⟩:=q7;exact again I7 n7
  |cont=>obtain⟨σ7,H7,I7,n7⟩:=q7;exact again I7 n7
  |brk=>obtain⟨σ7,H7,I7,q7⟩:=q7;exact⟨σ7,H7,I7.unpinned,q7⟩
  |ret v=>obtain⟨x7,σ7,H7,I7,r7,q7⟩:=q7;exact⟨x7,σ7,H7,I7.unpinned,r7,q7⟩
end
abbrev R2:=V->V->Hp->VK->Prop
def OpR(X:Cx)(f:Value->Value->Sem Value)(r:R2):Prop :=
 ∀(pins:List (Addr×Obj)) (s:Shared) (σ:St) (H:Hp) (x y:V) (v u:Value) (Q:VK),Inv X pins σ H s->RelV x v->RelV y u->r x y H Q ->
  wpAny (model X.prog X.w) X.A (f v u) (EP X pins σ Q) X.xe s
def UnR(X:Cx)(f:Value->Sem Value)(r:V->Hp->VK->Prop):Prop :=
 ∀(pins:List (Addr×Obj)) (s:Shared) (σ:St) (H:Hp) (x:V) (v:Value) (Q:VK),Inv X pins σ H s->RelV x v->r x H Q ->
  wpAny (model X.prog X.w) X.A (f v) (EP X pins σ Q) X.xe s
def wz(X:Cx)(f:Value)(r:List V->Hp->VK->Prop):Prop :=
 ∀(pins:List (Addr×Obj)) (s:Shared) (σ:St) (H:Hp) (xs:List V) (us:List Value) (Q:VK),Inv X pins σ H s->Vals xs us->r xs H Q ->
  wpAny (model X.prog X.w) X.A (call f us) (EP X pins σ Q) X.xe s
def zwe(X:Cx)(r:V->Hp->(Bool->Hp->Prop)->Prop):Prop :=
 ∀(pins:List (Addr×Obj)) (s:Shared) (σ:St) (H:Hp) (x:V) (v:Value) (Q:Bool->Hp->Prop),Inv X pins σ H s->RelV x v->r x H Q ->
  wpAny (model X.prog X.w) X.A (truthy v) (TP X pins σ Q) X.xe s
def tOp(r:R2)(ta tb:TE):TE:=λσ H Q=>ta σ H λx H1=>tb σ H1 λy H2=>r x y H2 Q
def tUn(r:V->Hp->VK->Prop)(ta:TE):TE:=λσ H Q=>ta σ H λx H1=>r x H1 Q
def rI(C:Int->Int->Prop)(g:Int->Int->V):R2:=λx y H Q=>∃i j,x=.int i/\y=.int j/\C i j/\Q (g i j) H
def rI0(g:Int->Int->V):R2:=λx y H Q=>∃i j,x=.int i/\y=.int j/\Q (g i j) H
def rU(g:Int->V):V->Hp->VK->Prop:=λx H Q=>∃i,x=.int i/\Q (g i) H
section
variable {X:Cx}{a b c:Expr}{ta tb tc:TE}{pos:Pos}
theorem zuo(ha:PE X a ta)(hb:PE X b tb){pins:List (Addr×Obj)}{s:Shared}{σ:St}{H:Hp}{R:V->V->Hp->Prop}(I:Inv X pins σ H s)
  (h:ta σ H λx H1=>tb σ H1 λy H2=>R x y H2) {Q:Value->Shared->Prop}{f:Value->Value->Sem Value}
  (hf:∀v u s2 x y H2,Inv X pins σ H2 s2->RelV x v->RelV y u->R x y H2->wpAny (model X.prog X.w) X.A (f v u) Q X.xe s2) :
  wpAny (model X.prog X.w) X.A (eval a X.env) (λv s₁=>wpAny (model X.prog X.w) X.A (eval b X.env) (λu s₂=>wpAny (model X.prog X.w) X.A (f v u) Q X.xe s₂) X.xe s₁) X.xe s:=by
 refine thn (ha pins s σ H _ I h) λv s1 ⟨x,H1,I1,r1,q1⟩=>?_;refine thn (hb pins s1 σ H1 _ I1 q1) λu s2 ⟨y,H2,I2,r2,q2⟩=>?_;exact hf v u s2 x y H2 I2 r1 r2 q2
theorem zgo{op:Operator}{r:R2}(ho:OpR X (binaryOp op) r)(ha:PE X a ta)(hb:PE X b tb):PE X (.BinOp a op b pos) (tOp r ta tb):=by
 intro pins s σ H Q I h;exact wpAny_BinOp (zuo ha hb I h λv u s2 x y H2 I2 rx ry q=>ho pins s2 σ H2 x y v u Q I2 rx ry q)
theorem zup{op:UnaryOp}{r:V->Hp->VK->Prop}(ho:UnR X (unaryOp op) r)(ha:PE X a ta):PE X (.UnaryOp op a pos) (tUn r ta):=by
 intro pins s σ H Q I h;exact UnaryOp_ (thn (ha pins s σ H _ I h) λv s1 ⟨x,H1,I1,r1,q1⟩=>ho pins s1 σ H1 x v Q I1 r1 q1)
theorem opI{f:Value->Value->Sem Value}{C:Int->Int->Prop}{g:Int->Int->Int}
  (rule:∀(i j:Int) (t u:Tok) (s:Shared) (Q:Value->Shared->Prop) (E:Value->Shared->Prop),C i j->Q (.int (g i j) s.toks) { s with toks:=s.toks+1 }->wpAny (model X.prog X.w) X.A (f (.int i t) (.int j u)) Q E s) :
  OpR X f (rI C λi j=>.int (g i j)):=by
 intro pins s σ H x y v u Q I rx ry h;obtain⟨i,j,rfl,rfl,hc,q⟩:=h;obtain⟨t,rfl⟩:=rx;obtain⟨t',rfl⟩:=ry;exact rule i j t t' s _ _ hc ⟨.int (g i j),H,I.tok _,⟨_,rfl⟩,q⟩
theorem zuq{f:Value->Value->Sem Value}{g:Int->Int->Int}
  (rule:∀(i j:Int) (t u:Tok) (s:Shared) (Q:Value->Shared->Prop) (E:Value->Shared->Prop),Q (.int (g i j) s.toks) { s with toks:=s.toks+1 }->wpAny (model X.prog X.w) X.A (f (.int i t) (.int j u)) Q E s) :
  OpR X f (rI0 λi j=>.int (g i j)):=by
 intro pins s σ H x y v u Q I rx ry h;obtain⟨i,j,rfl,rfl,q⟩:=h;obtain⟨t,rfl⟩:=rx;obtain⟨t',rfl⟩:=ry;exact rule i j t t' s _ _ ⟨.int (g i j),H,I.tok _,⟨_,rfl⟩,q⟩
theorem zox{f:Value->Value->Sem Value}{g:Int->Int->Bool}
  (rule:∀(i j:Int) (t u:Tok) (s:Shared) (Q:Value->Shared->Prop) (E:Value->Shared->Prop),Q (.bool (g i j)) s->wpAny (model X.prog X.w) X.A (f (.int i t) (.int j u)) Q E s) :
  OpR X f (rI0 λi j=>.bl (g i j)):=by
 intro pins s σ H x y v u Q I rx ry h;obtain⟨i,j,rfl,rfl,q⟩:=h;obtain⟨t,rfl⟩:=rx;obtain⟨t',rfl⟩:=ry;exact rule i j t t' s _ _ ⟨.bl (g i j),H,I,rfl,q⟩
def zk4(i j:Int):Prop:=0<=j/\j<=1000000/\i.natAbs<2 ^ 64
def CMul(i j:Int):Prop:=(-(2 ^ 64)<i/\i<2 ^ 64)\/(-(2 ^ 64)<j/\j<2 ^ 64)
theorem CMul.ok{i j:Int}(h:CMul i j):IntMulOk i j:=by
 rcases h with⟨h1,h2⟩ |⟨h1,h2⟩
 ·exact .of_left (intBits_le_64 h1 h2)
 ·exact .of_right (intBits_le_64 h1 h2)
theorem zh6(k:Nat):(0:Int)<=2 ^ k:=by
 rw[two_pow_cast];exact Int.natCast_nonneg _
theorem zmc:OpR X (binaryOp .Add) (rI0 λi j=>.int (i+j)):=zuq λ_ _ _ _ _ _ _ q=>add_int q
theorem zrz:OpR X (binaryOp .Sub) (rI0 λi j=>.int (i-j)):=zuq λ_ _ _ _ _ _ _ q=>sub_int q
theorem zr0:OpR X (binaryOp .Mult) (rI CMul λi j=>.int (i * j)):=opI λ_ _ _ _ _ _ _ hc q=>mul_int q hc.ok
theorem zh7:OpR X (binaryOp .Mod) (rI (λ_ j=>0<j) λi j=>.int (i % j)):=opI λi j _ _ _ _ _ hc q=>by
 have h1:(0:Int)<j:=hc;exact mod_int' (by omega) (by rw[Int.fmod_eq_emod_of_nonneg i (by omega)];exact q)
theorem zr1:OpR X (binaryOp .Pow) (rI zk4 λi j=>.int (i ^ j.toNat)):=opI λ_ _ _ _ _ _ _ hc q=>pow_int_small hc.1 hc.2.1 hc.2.2 q
theorem zr2:OpR X (binaryOp .LShift) (rI zk4 λi j=>.int (i * 2 ^ j.toNat)):=opI λ_ _ _ _ _ _ _ hc q=>lshift_int_small hc.1 hc.2.1 hc.2.2 q
theorem zr3:OpR X (binaryOp .RShift) (rI (λ_ j=>0<=j) λi j=>.int (i / 2 ^ j.toNat)):=opI λi j _ _ _ _ _ hc q=>
 rshift_int hc (by rw[Int.fdiv_eq_ediv_of_nonneg i (zh6 _)];exact q)
theorem unI{f:Value->Sem Value}{g:Int->Int}
  (rule:∀(i:Int) (t:Tok) (s:Shared) (Q:Value->Shared->Prop) (E:Value->Shared->Prop),Q (.int (g i) s.toks) { s with toks:=s.toks+1 }->wpAny (model X.prog X.w) X.A (f (.int i t)) Q E s) :
  UnR X f (rU λi=>.int (g i)):=by
 intro pins s σ H x v Q I rx h;obtain⟨i,rfl,q⟩:=h;obtain⟨t,rfl⟩:=rx;exact rule i t s _ _ ⟨.int (g i),H,I.tok _,⟨_,rfl⟩,q⟩
theorem zr4:UnR X (unaryOp .USub) (rU λi=>.int (-i)):=unI λ_ _ _ _ _ q=>neg_int q
end
def zr5:V->V->Bool
 |.non,.non=>true|.non,.int _=>true|.int _,.non=>true|.non,.bl _=>true|.bl _,.non=>true|.non,.str _=>true|.str _,.non=>true
 |.int _,.int _=>true|.bl _,.bl _=>true|.str _,.str _=>true|.byt _,.byt _=>true
 |.int _,.str _=>true|.str _,.int _=>true|.bl _,.str _=>true|.str _,.bl _=>true
 |_,_=>false
def rEq:R2:=λx y H Q=>zr5 x y=true/\Q (.bl (decide (x=y))) H
def rNe:R2:=λx y H Q=>zr5 x y=true/\Q (.bl (!decide (x=y))) H
theorem zjs{i j:Int}:decide (V.int i=V.int j)=(i == j):=by
 rw[Bool.eq_iff_iff];simp
theorem zmd{i j:Bool}:decide (V.bl i=V.bl j)=(i == j):=by
 rw[Bool.eq_iff_iff];simp
theorem zjt{i j:Str}:decide (V.str i=V.str j)=(i == j):=by
 rw[Bool.eq_iff_iff];simp
theorem zju{i j:Array UInt8}:decide (V.byt i=V.byt j)=(i.toList == j.toList):=by
 rw[Bool.eq_iff_iff]
 cases i
 cases j;simp
section
variable {X:Cx}{a b c:Expr}{ta tb tc:TE}{pos:Pos}
theorem yt{pins:List (Addr×Obj)}{σ:St}{H:Hp}{s:Shared}{Q:VK}{k k':Bool}(I:Inv X pins σ H s)(q:Q (.bl k) H)(e:k=k'):EP X pins σ Q (.bool k') s:=by
 subst e;exact⟨.bl k,H,I,rfl,q⟩
theorem zqr:OpR X (compareOp .Eq) rEq:=by
 intro pins s σ H x y v u Q I rx ry h;obtain⟨hs,q⟩:=h
 cases x with
 |non=>
  cases rx
  cases y with
  |non=>cases ry;exact PySem.EqNone.eq_none_none (yt I q (by simp))
  |bl j=>cases ry;exact PySem.EqNone.eq_none_bool (yt I q (by simp))
  |int j=>obtain⟨t',rfl⟩:=ry;exact PySem.EqNone.eq_none_int (yt I q (by simp))
  |str j=>obtain⟨t',rfl⟩:=ry;exact PySem.EqNone.eq_none_str (yt I q (by simp))
  |_=>exact absurd (show false=true from hs) Bool.false_ne_true
 |bl i=>
  cases rx
  cases y with
  |non=>cases ry;exact PySem.EqNone.eq_bool_none (yt I q (by simp))
  |bl j=>cases ry;exact eq_bool (yt I q zmd)
  |str j=>obtain⟨t',rfl⟩:=ry;exact PySem.EqMixed.eq_bool_str (yt I q (by simp))
  |_=>exact absurd (show false=true from hs) Bool.false_ne_true
 |int i=>
  obtain⟨t,rfl⟩:=rx
  cases y with
  |non=>cases ry;exact PySem.EqNone.eq_int_none (yt I q (by simp))
  |int j=>obtain⟨t',rfl⟩:=ry;exact eq_int (yt I q zjs)
  |str j=>obtain⟨t',rfl⟩:=ry;exact PySem.EqMixed.eq_int_str (yt I q (by simp))
  |_=>exact absurd (show false=true from hs) Bool.false_ne_true
 |str i=>
  obtain⟨t,rfl⟩:=rx
  cases y with
  |non=>cases ry;exact PySem.EqNone.eq_str_none (yt I q (by simp))
  |bl j=>cases ry;exact PySem.EqMixed.eq_str_bool (yt I q (by simp))
  |int j=>obtain⟨t',rfl⟩:=ry;exact PySem.EqMixed.eq_str_int (yt I q (by simp))
  |str j=>obtain⟨t',rfl⟩:=ry;exact eq_str (yt I q zjt)
  |_=>exact absurd (show false=true from hs) Bool.false_ne_true
 |byt i=>
  obtain⟨t,rfl⟩:=rx
  cases y with
  |byt j=>obtain⟨t',rfl⟩:=ry;exact PySem.W.eq_bytes (yt I q zju)
  |_=>exact absurd (show false=true from hs) Bool.false_ne_true
 |_=>cases y <;> exact absurd (show false=true from hs) Bool.false_ne_true
theorem zur:OpR X (compareOp .NotEq) rNe:=by
 intro pins s σ H x y v u Q I rx ry h;obtain⟨hs,q⟩:=h
 cases x with
 |non=>
  cases rx
  cases y with
  |non=>cases ry;exact PySem.EqNone.ne_none_none (yt I q (by simp))
  |bl j=>cases ry;exact PySem.EqNone.ne_none_bool (yt I q (by simp))
  |int j=>obtain⟨t',rfl⟩:=ry;exact PySem.EqNone.ne_none_int (yt I q (by simp))
  |str j=>obtain⟨t',rfl⟩:=ry;exact PySem.EqNone.ne_none_str (yt I q (by simp))
  |_=>exact absurd (show false=true from hs) Bool.false_ne_true
 |bl i=>
  cases rx
  cases y with
  |non=>cases ry;exact PySem.EqNone.ne_bool_none (yt I q (by simp))
  |bl j=>cases ry;exact ne_bool (yt I q (congrArg not zmd))
  |str j=>obtain⟨t',rfl⟩:=ry;exact PySem.EqMixed.ne_bool_str (yt I q (by simp))
  |_=>exact absurd (show false=true from hs) Bool.false_ne_true
 |int i=>
  obtain⟨t,rfl⟩:=rx
  cases y with
  |non=>cases ry;exact PySem.EqNone.ne_int_none (yt I q (by simp))
  |int j=>obtain⟨t',rfl⟩:=ry;exact ne_int (yt I q (congrArg not zjs))
  |str j=>obtain⟨t',rfl⟩:=ry;exact PySem.EqMixed.ne_int_str (yt I q (by simp))
  |_=>exact absurd (show false=true from hs) Bool.false_ne_true
 |str i=>
  obtain⟨t,rfl⟩:=rx
  cases y with
  |non=>cases ry;exact PySem.EqNone.ne_str_none (yt I q (by simp))
  |bl j=>cases ry;exact PySem.EqMixed.ne_str_bool (yt I q (by simp))
  |int j=>obtain⟨t',rfl⟩:=ry;exact PySem.EqMixed.ne_str_int (yt I q (by simp))
  |str j=>obtain⟨t',rfl⟩:=ry;exact ne_str (yt I q (congrArg not zjt))
  |_=>exact absurd (show false=true from hs) Bool.false_ne_true
 |byt i=>
  obtain⟨t,rfl⟩:=rx
  cases y with
  |byt j=>obtain⟨t',rfl⟩:=ry;exact PySem.W.ne_bytes (yt I q (congrArg not zju))
  |_=>exact absurd (show false=true from hs) Bool.false_ne_true
 |_=>cases y <;> exact absurd (show false=true from hs) Bool.false_ne_true
theorem zus:OpR X (compareOp .Lt) (rI0 λi j=>.bl (decide (i<j))):=zox λ_ _ _ _ _ _ _ q=>lt_int q
theorem zut:OpR X (compareOp .LtE) (rI0 λi j=>.bl (decide (i<=j))):=zox λ_ _ _ _ _ _ _ q=>le_int q
theorem zqs:OpR X (compareOp .Gt) (rI0 λi j=>.bl (decide (j<i))):=zox λ_ _ _ _ _ _ _ q=>gt_int q
theorem zuu:OpR X (compareOp .GtE) (rI0 λi j=>.bl (decide (j<=i))):=zox λ_ _ _ _ _ _ _ q=>ge_int q
theorem zr6:OpR X (compareOp .Is) (λx y H Q=>y=.non/\Q (.bl (decide (x=.non))) H):=by
 intro pins s σ H x y v u Q I rx ry h;obtain⟨rfl,q⟩:=h
 cases ry;refine is_none_gen (yt I q ?_)
 cases x <;> first
  |(cases rx;rfl)
  |(obtain⟨t,rfl⟩:=rx;rfl)
theorem zoy:OpR X (compareOp .IsNot) (λx y H Q=>y=.non/\Q (.bl (!decide (x=.non))) H):=by
 intro pins s σ H x y v u Q I rx ry h;obtain⟨rfl,q⟩:=h
 cases ry;refine isnot_none_gen (yt I q ?_)
 cases x <;> first
  |(cases rx;rfl)
  |(obtain⟨t,rfl⟩:=rx;rfl)
theorem zy(b:Expr){op:CmpOp}(h:op ≠ .In:=by decide)(h2:op ≠ .NotIn:=by decide):behindInMarks op b=false:=by
 have e1:(op == CmpOp.In)=false:=by cases op <;> first|rfl|exact absurd rfl h
 have e2:(op == CmpOp.NotIn)=false:=by cases op <;> first|rfl|exact absurd rfl h2
 cases b <;> simp[behindInMarks,e1,e2]
def zuv(t:TE):TT:=λσ H Q=>t σ H λx H'=>∃k,x=.bl k/\Q k H'
theorem zjv{op:CmpOp}{r:R2}(ho:OpR X (compareOp op) r)(ha:PE X a ta)(hb:PE X b tb)(hm:behindInMarks op b=false):PT X (.Compare a [op] [b] pos) (zuv (tOp r ta tb)):=by
 intro pins s σ H Q I h;refine wpAny_isTrue_Compare1 (thn (ha pins s σ H _ I h) λv s1 ⟨x,H1,I1,r1,q1⟩=>thn (hb pins s1 σ H1 _ I1 q1) λu s2 ⟨y,H2,I2,r2,q2⟩=>
  thn (ho pins s2 σ H2 x y v u _ I2 r1 r2 q2) λc s3 ⟨z,H3,I3,r3,k,e,q3⟩=>?_) hm
 subst e
 cases r3;exact wpAny_truthy_bool ⟨H3,I3,q3⟩
def zr7(K:PySem.W.Frag)(x:V)(H:Hp)(k:Bool):Prop :=
 match x with
 |.non=>k=false
 |.bl b=>k=b
 |.int i=>k=(i != 0)
 |.str y=>y.length<=sizeLine/\k=((y.length:Int) != 0)
 |.byt y=>y.size<=sizeLine/\k=((y.size:Int) != 0)
 |.ref p=>(∃xs,SqL K H p xs/\k = !xs.isEmpty)\/(∃xs,SqT K H p xs/\k = !xs.isEmpty)\/∃kvs,H p=some (.dK kvs)/\k = !kvs.isEmpty
 |_=>False
theorem zh8{κ:Type}{kvs:List (κ×V)}{vs:List (κ×Value)}(r:KV kvs vs):(!vs.isEmpty) = !kvs.isEmpty:=by
 cases r <;> rfl
theorem zcq{xs:List V}{its:List Value}(r:Vals xs its):(!its.toArray.isEmpty) = !xs.isEmpty:=by
 cases r <;> simp
theorem j3:(sizeLine:Nat)<2 ^ 63:=by rw[sizeLine_eq];decide
theorem zr8:zwe X (λx H Q=>∃k,zr7 X.K x H k/\Q k H):=by
 intro pins s σ H x v Q I rx h;obtain⟨k,e,q⟩:=h;have hl:=j3;have hs:sizeLine=16777216:=sizeLine_eq
 cases x with
 |non=>
  cases rx;have e':k=false:=e;subst e';exact truthy_none ⟨H,I,q⟩
 |bl b=>
  cases rx;have e':k=b:=e;subst e';exact wpAny_truthy_bool ⟨H,I,q⟩
 |int i=>
  obtain⟨t,rfl⟩:=rx;have e':k=(i != 0):=e;subst e';exact PySem.P.truthy_int ⟨H,I,q⟩
 |str y=>
  obtain⟨t,rfl⟩:=rx;obtain⟨hy,e'⟩:y.length<=sizeLine/\k=((y.length:Int) != 0):=e;subst e';exact PySem.P.truthy_str (by omega) ⟨H,I.tok _,q⟩
 |byt y=>
  obtain⟨t,rfl⟩:=rx;obtain⟨hy,e'⟩:y.size<=sizeLine/\k=((y.size:Int) != 0):=e;subst e';exact PySem.W.truthy_bytes (by omega) ⟨H,I.tok _,q⟩
 |ref p=>
  cases rx;have e':(∃xs,SqL X.K H p xs/\k = !xs.isEmpty)\/(∃xs,SqT X.K H p xs/\k = !xs.isEmpty)\/∃kvs,H p=some (.dK kvs)/\k = !kvs.isEmpty:=e;rcases e' with⟨xs,hx,e'⟩ |⟨xs,hx,e'⟩ |⟨kvs,hx,e'⟩
  ·subst e';obtain⟨its,r,pl,hz⟩:=I.list hx;have hlen:=r.length;exact wpAny_truthy_list pl.isList (by simp only[List.size_toArray];omega) ⟨H,I.tok _,by rw[zcq r];exact q⟩
  ·subst e';obtain⟨its,r,pl,hz⟩:=I.tuple hx;have hlen:=r.length;exact truthy_tuple pl (by simp only[List.size_toArray];omega) ⟨H,I.tok _,by rw[zcq r];exact q⟩
  ·subst e';obtain⟨hz,hS,vs,r,m⟩:kvs.length<=sizeLine/\(p == sysModules)=false/\∃vs,KV kvs vs/\s.heap.DictOf (ze2 X.prog X.w) p vs:=I.hok p _ hx;have hlen:kvs.length=vs.length:=Paired.length r;exact wpAny_truthy_dict hS m (by omega) ⟨H,I.tok _,by rw[zh8 r];exact q⟩
 |_=>exact(show False from e).elim
theorem zme(ha:PE X a ta)(he:∀whole,isTrue a X.env whole=(do let v <-whole;standAt a.pos;holding [v] (truthy v))):
  PT X a (λσ H Q=>ta σ H λx H'=>∃k,zr7 X.K x H' k/\Q k H'):=by
 intro pins s σ H Q I h;exact isTrue_plain (thn (ha pins s σ H _ I h) λv s1 ⟨x,H1,I1,r1,q1⟩=>zr8 pins s1 σ H1 x v Q I1 r1 q1) (he _)
theorem zh9:OpR X (binaryOp .Add) (λx y H Q=>∃i j,x=.str i/\y=.str j/\i.length+j.length<=sizeLine/\Q (.str (i++j)) H):=by
 intro pins s σ H x y v u Q I rx ry h;obtain⟨i,j,rfl,rfl,hz,q⟩:=h;obtain⟨t,rfl⟩:=rx;obtain⟨t',rfl⟩:=ry;exact add_str (λt' tk=>⟨.str (i++j),H,I.tok _,⟨_,rfl⟩,q⟩) hz
theorem zgp{x:V}{us:List Value}(r:Vals [x] us):∃u,us = [u]/\RelV x u:=by
 cases r with
 |cons r1 r2=>cases r2;exact⟨_,rfl,r1⟩
theorem zqt{x y:V}{us:List Value}(r:Vals [x,y] us):∃u w',us = [u,w']/\RelV x u/\RelV y w':=by
 cases r with
 |cons r1 r2=>
  cases r2 with
  |cons r3 r4=>cases r4;exact⟨_,_,rfl,r1,r3⟩
theorem zk5(hc:X.calm=true):wz X (.builtin "max") (λxs H Q=>∃i j,xs = [.int i,.int j]/\Q (.int (if j > i then j else i)) H):=by
 intro pins s σ H xs us Q I r h;obtain⟨i,j,rfl,q⟩:=h;obtain⟨u,w',rfl,⟨t,rfl⟩,⟨t',rfl⟩⟩:=zqt r;refine max_two_ints (I.ok.hd hc) λh' tk k=>⟨_,H,I.kept k,?_,q⟩
 by_cases hj:j > i
 ·rw[if_pos hj,if_pos hj];exact⟨_,rfl⟩
 ·rw[if_neg hj,if_neg hj];exact⟨_,rfl⟩
theorem zk6(hc:X.calm=true):wz X (.builtin "min") (λxs H Q=>∃i j,xs = [.int i,.int j]/\Q (.int (if j<i then j else i)) H):=by
 intro pins s σ H xs us Q I r h;obtain⟨i,j,rfl,q⟩:=h;obtain⟨u,w',rfl,⟨t,rfl⟩,⟨t',rfl⟩⟩:=zqt r;refine min_two_ints (I.ok.hd hc) λh' tk k=>⟨_,H,I.kept k,?_,q⟩
 by_cases hj:j<i
 ·rw[if_pos hj,if_pos hj];exact⟨_,rfl⟩
 ·rw[if_neg hj,if_neg hj];exact⟨_,rfl⟩
theorem zk7:wz X (.type "int") (λxs H Q=>(∃i,xs = [.int i]/\Q (.int i) H)\/∃k,xs = [.bl k]/\Q (.int (if k then 1 else 0)) H):=by
 intro pins s σ H xs us Q I r h;rcases h with⟨i,rfl,q⟩ |⟨k,rfl,q⟩
 ·obtain⟨u,rfl,t,rfl⟩:=zgp r;exact call_int_int ⟨.int i,H,I,⟨_,rfl⟩,q⟩
 ·obtain⟨u,rfl,r1⟩:=zgp r
  cases r1;exact call_int_bool ⟨.int (if k then 1 else 0),H,I.tok _,⟨_,rfl⟩,q⟩
def zwf(K:PySem.W.Frag)(x:V)(H:Hp)(n:Nat):Prop :=
 match x with
 |.str y=>y.length<=sizeLine/\n=y.length
 |.byt y=>y.size<=sizeLine/\n=y.size
 |.ref p=>(∃xs,SqL K H p xs/\n=xs.length)\/∃xs,SqT K H p xs/\n=xs.length
 |_=>False
theorem zmf:wz X (.builtin "len") (λxs H Q=>∃x n,xs = [x]/\zwf X.K x H n/\Q (.int n) H):=by
 intro pins s σ H xs us Q I r h;obtain⟨x,n,rfl,e,q⟩:=h;obtain⟨u,rfl,rx⟩:=zgp r;have hl:=j3;have hs:sizeLine=16777216:=sizeLine_eq
 cases x with
 |str y=>
  obtain⟨t,rfl⟩:=rx;obtain⟨hy,e'⟩:y.length<=sizeLine/\n=y.length:=e;subst e';exact len_str (by omega) ⟨.int _,H,I.tok _,⟨_,rfl⟩,q⟩
 |byt y=>
  obtain⟨t,rfl⟩:=rx;obtain⟨hy,e'⟩:y.size<=sizeLine/\n=y.size:=e;subst e';exact PySem.W.len_bytes (by omega) ⟨.int _,H,I.tok _,⟨_,rfl⟩,q⟩
 |ref p=>
  cases rx;have e':(∃xs,SqL X.K H p xs/\n=xs.length)\/∃xs,SqT X.K H p xs/\n=xs.length:=e;rcases e' with⟨xs,hx,e'⟩ |⟨xs,hx,e'⟩
  ·subst e';obtain⟨its,r',pl,hz⟩:=I.list hx;have hlen:=r'.length;exact Calls.call_len_list pl.isList (by simp only[List.size_toArray];omega) ⟨.int xs.length,H,I.tok _,⟨_,by simp only[List.size_toArray];rw[hlen]⟩,q⟩
  ·subst e';obtain⟨its,r',pl,hz⟩:=I.tuple hx;have hlen:=r'.length;exact len_tuple pl (by simp only[List.size_toArray];omega) ⟨.int xs.length,H,I.tok _,⟨_,by simp only[List.size_toArray];rw[hlen]⟩,q⟩
 |_=>exact(show False from e).elim
end
structure zw8(h:Heap)(x dx C:Addr)(mA:Str->Option Value):Prop where
 obj:h.get? x=some (PySem.W.instObj C dx)
 ns:h.Ns1 dx mA
 ne:dx≠x
section
variable {prog:Program}{w:World}{A:Around}{E:Value->Shared->Prop}{s:Shared}{K:PySem.W.Frag}{x dx C f:Addr}{mA:Str->Option Value}{name:Str}{v:Value}
end
section
variable {P:Program}{w:World}{H H':Hp}{h h':Heap}{a C dx:Addr}{fs fs':List (Str×V)}
end
structure Cls(K:PySem.W.Frag)(C:Addr):Prop where
 pg:PySem.W.plainGet K C Str.empty=true
 hd:PySem.W.hasDictIn K C=true
 po:PySem.W.plainOver K C=true
 sa:PySem.W.findIn K (.ref C) "__setattr__" = some (some (.builtin "object.__setattr__"))
def zr9(K:PySem.W.Frag)(C:Addr)(f:Str):Prop:=PySem.W.findIn K (.ref C) f=some none
structure Con(K:PySem.W.Frag)(C:Addr)(f:Str)(v:V)(u:Value):Prop where
 at_:PySem.W.findIn K (.ref C) f=some (some u)
 rel:RelV v u
 get:PySem.W.specialIn K u "__get__" = some none
 cp:PySem.W.copiedNames.contains f=false
structure zw9(K:PySem.W.Frag)(C:Addr)(m:Str)(f:Addr):Prop where
 at_:PySem.W.findIn K (.ref C) m=some (some (.ref f))
 fn:PySem.W.isFn K (.ref f)=true
 kp:PySem.W.keepIn K (.ref f)=true
section
variable {X:Cx}{pins:List (Addr×Obj)}{σ:St}{H:Hp}{s:Shared}{a C dx:Addr}{fs:List (Str×V)}{f:Str}{v:V}{A:Around}{E:Value->Shared->Prop}
end
section
variable {X:Cx}{o e value:Expr}{f:Str}{pos pos' tpos:Pos}{ta tv:TE}
end
section
variable {X:Cx}{pins:List (Addr×Obj)}{σ:St}{H:Hp}{s:Shared}{A:Around}{E:Value->Shared->Prop}{Q:Value->Shared->Prop}{c:Value}{b:Bool}
inductive zcr(K:PySem.W.Frag)(H:Hp):V->Value->Prop where
 |non:zcr K H .non (.type "NoneType")
 |bl (x:Bool):zcr K H (.bl x) (.type "bool")
 |int (i:Int):zcr K H (.int i) (.type "int")
 |str (x:Str):zcr K H (.str x) (.type "str")
 |flt (x:UInt64):zcr K H (.flt x) (.type "float")
 |lst {a:Addr}{xs:List V} (e:H a=some (.lst xs)):zcr K H (.ref a) (.type "list")
 |frz {a:Addr}{o:Obj}{xs:List V} (e:H a=some (.frz o (.lst xs))):zcr K H (.ref a) (.type "list")
 |tup {a:Addr}{xs:List V} (e:H a=some (.tup xs)):zcr K H (.ref a) (.type "tuple")
 |dK {a:Addr}{kvs:List (Key×V)} (e:H a=some (.dK kvs)):zcr K H (.ref a) (.type "dict")
 |dT {a:Addr}{kvs:List (List Key×V)} (e:H a=some (.dT kvs)):zcr K H (.ref a) (.type "dict")
 |ins {a C dx:Addr}{fs:List (Str×V)} (e:H a=some (.ins C dx fs)) (cl:Cls K C) (ha:PySem.W.findIn K (.ref C) "__class__" = some (some (.builtin "object.__class__")))
   (hn:PySem.W.specialIn K (.builtin "object.__class__") "__get__" = some (some (.builtin "getset_descriptor.__get__"))) (htk:PySem.W.takesIn K (.builtin "object.__class__")=some true)
   (hm:PySem.W.mroIn K C (.type "object")=some true):zcr K H (.ref a) (.ref C)
end
structure Room(k:Nat)(A:Around):Prop where
 hd:A.handled=none
 dp:A.depth+3 * k+5<recursionLimit
 un:A.units+16 * k+200<cLine
 gd:A.guards=some []
theorem Room.mono{j k:Nat}{A:Around}(r:Room k A)(h:j<=k):Room j A:=⟨r.hd,by have:=r.dp;omega,by have:=r.un;omega,r.gd⟩
theorem Room.deeper{k:Nat}{A:Around}(r:Room (k+1) A)(env:Env):Room k (A.deeper env) :=
 ⟨r.hd,by have:=r.dp;show A.depth+1+3 * k+5<_;omega,by have:=r.un;show A.units+3+16 * k+200<_;omega,r.gd⟩
theorem Room.in1{k:Nat}{A:Around}(r:Room (k+1) A):Room k A.in1 :=
 ⟨r.hd,by have:=r.dp;show A.depth+3 * k+5<_;omega,by have:=r.un;show A.units+1+16 * k+200<_;omega,r.gd⟩
theorem Room.depth{k:Nat}{A:Around}(r:Room k A):A.depth<recursionLimit:=by have:=r.dp;omega
theorem Room.units{k:Nat}{A:Around}(r:Room k A):A.units+64<cLine:=by have:=r.un;omega
def zwg:TA:=λ_ H Q=>Q [] H
def zuw(ta:TE)(tr:TA):TA:=λσ H Q=>ta σ H λx H1=>tr σ H1 λxs H2=>Q (x::xs) H2
section
variable {X:Cx}{e:Expr}{es:List Expr}{te:TE}{t:TA}{pos:Pos}
theorem ke:PA X [] zwg:=λ_ _ _ _ H Q I h=>Calls.spliced_nil ⟨[],H,I,.nil,h⟩
theorem wm(ha:PE X e te)(hr:PA X es t)(hs:starEach (e::es) X.env=(false,eval e X.env)::starEach es X.env:=by rfl):PA X (e::es) (zuw te t):=by
 intro pos pins s σ H Q I h;rw[hs];show wpAny _ _ (spliced ((false,eval e X.env)::backTo pos (starEach es X.env))) _ _ s;refine Calls.spliced_cons (thn (ha pins s σ H _ I h) λu s1 ⟨x,H1,I1,r1,q1⟩=>?_);exact thn (hr pos pins s1 σ H1 _ I1 q1) λus s2 ⟨xs,H2,I2,r2,q2⟩=>⟨x::xs,H2,I2,.cons r1 r2,q2⟩
def zwh(t:TA):TE:=λσ H Q=>t σ H λxs H1=>xs.length<=sizeLine/\∀p,H1 p=none->Q (.ref p) (upd H1 p (.tup xs))
def zwi(t:TA):TE:=λσ H Q=>t σ H λxs H1=>xs.length<=sizeLine/\∀p,H1 p=none->Q (.ref p) (upd H1 p (.lst xs))
theorem zsa{x1}(h:PA X es t):PE X (.Tuple es x1 pos) (zwh t):=by
 intro pins s σ H Q I hq;refine wpAny_Tuple_spliced (thn (h pos pins s σ H _ I hq) λus s1 ⟨xs,H1,I1,r,z,q⟩=>⟨by rw[<-r.length];exact z,?_⟩);have hf:H1 s1.heap.objs.size=none:=I1.hok.fresh (Nat.le_refl _);refine⟨.ref s1.heap.objs.size,upd H1 s1.heap.objs.size (.tup xs),I1.laid (t':=s1.toks) (λb u e=>Heap.get?_push_of_some _ e) (Nat.le_refl _) ?_,rfl,q _ hf⟩;exact⟨z,us,r,⟨_,Heap.get?_push_size _ rfl,rfl,⟨_,rfl⟩,rfl⟩⟩
theorem zsb(h:PA X es t):PE X (.List es pos) (zwi t):=by
 intro pins s σ H Q I hq;refine wpAny_List_spliced (thn (h pos pins s σ H _ I hq) λus s1 ⟨xs,H1,I1,r,z,q⟩=>⟨by rw[<-r.length];exact z,?_⟩);have hf:H1 s1.heap.objs.size=none:=I1.hok.fresh (Nat.le_refl _);refine⟨.ref s1.heap.objs.size,upd H1 s1.heap.objs.size (.lst xs),I1.laid (t':=s1.toks) (λb u e=>Heap.get?_push_of_some _ e) (Nat.le_refl _) ?_,rfl,q _ hf⟩;exact⟨z,us,0,r,Heap.get?_push_size _ rfl⟩
end
abbrev Sp:=List V->Hp->VK->XK->Prop
abbrev CXT:=List Env->Hp->Shared->XK->Value->Shared->Prop
structure Env0(P:Program)(w:World)(K:PySem.W.Frag)(mg:Str->Option Value)(base:Heap)(A:Around)(outer:List Env)(s:Shared)(H:Hp):Prop where
 frames:A.frames=some outer
 mod:Mod K mg base
 bs:∀b o,base.get? b=some o->s.heap.get? b=some o/\H b=none
 bsz:base.objs.size<=s.heap.objs.size
 funs:s.heap.FunFrames base outer
 frf:∀b∈frs outer,H b=none
 hok:HOk P w H s.heap
 bare:AllBare s.gens
def CE(outer:List Env)(P:Program)(w:World)(H:Hp)(s:Shared)(Q:VK)(u:Value)(s':Shared):Prop :=
 ∃v H',s'.os=s.os/\AllBare s'.gens/\Un (frs outer) [] H H' s.heap s'.heap/\HOk P w H' s'.heap/\RelV v u/\Q v H'
def CR(CX:CXT)(outer:List Env)(P:Program)(w:World)(H:Hp)(s:Shared)(Q:VK)(E:XK)(r:Result)(s':Shared):Prop :=
 match r with
 |.ok (.ret u)=>CE outer P w H s Q u s'
 |.ok _=>False
 |.error e=>CX outer H s E e s'
structure FnOk(P:Program)(w:World)(K:PySem.W.Frag)(mg:Str->Option Value)(base:Heap)(CX:CXT)(k:Nat)(f:Addr)(fd:FuncData)(ps:List Str)(sp:Sp):Prop where
 len:∀vs H Q E,sp vs H Q E->vs.length=ps.length
 run:∀(A:Around) (outer:List Env) (s:Shared) (H:Hp) (args:Args) (us:List Value) (vs:List V) (Q:VK) (E:XK),Room k A->Env0 P w K mg base A outer s H->BindsTo s fd args (ps.zip us)->Vals vs us->sp vs H Q E ->
  codeAny (model P w) A (.call (.ref f) args) (CR CX outer P w H s Q E) s
theorem FnOk.mono{P:Program}{w:World}{K:PySem.W.Frag}{mg:Str->Option Value}{base:Heap}{CX:CXT}{j k:Nat}{f:Addr}{fd:FuncData}{ps:List Str}{sp:Sp}(F:FnOk P w K mg base CX j f fd ps sp)(h:j<=k):
  FnOk P w K mg base CX k f fd ps sp:=⟨F.len,λA outer s H args us vs Q E hr=>F.run A outer s H args us vs Q E (hr.mono h)⟩
theorem FnOk.imp{P:Program}{w:World}{K:PySem.W.Frag}{mg:Str->Option Value}{base:Heap}{CX:CXT}{k:Nat}{f:Addr}{fd:FuncData}{ps:List Str}{sp sp':Sp}(F:FnOk P w K mg base CX k f fd ps sp)
  (h:∀vs H Q E,sp' vs H Q E->sp vs H Q E):FnOk P w K mg base CX k f fd ps sp' :=
 ⟨λvs H Q E q=>F.len vs H Q E (h _ _ _ _ q),λA outer s H args us vs Q E hr he hb hv hs=>F.run A outer s H args us vs Q E hr he hb hv (h _ _ _ _ hs)⟩
theorem Env0.in1{P:Program}{w:World}{K:PySem.W.Frag}{mg:Str->Option Value}{base:Heap}{A:Around}{outer:List Env}{s:Shared}{H:Hp}(e:Env0 P w K mg base A outer s H):
  Env0 P w K mg base A.in1 outer s H:=⟨e.frames,e.mod,e.bs,e.bsz,e.funs,e.frf,e.hok,e.bare⟩
section
variable {X:Cx}{pins:List (Addr×Obj)}{σ:St}{H:Hp}{s s':Shared}
theorem Inv.env0(I:Inv X pins σ H s):Env0 X.prog X.w X.K X.mg X.base X.A X.stack s H :=
 ⟨I.ok.frames,I.ok.mod,I.bs,Nat.le_trans I.ok.bsz I.sz,I.stack,I.stkFree,I.hok,I.bare⟩
theorem Inv.after{Q:VK}{u:Value}(I:Inv X pins σ H s)(h:CE X.stack X.prog X.w H s Q u s'):EP X pins σ Q u s':=by
 obtain⟨v,H',os,bare,un,hok,r,q⟩:=h;obtain⟨hh,g,d,t,os'⟩:=s';obtain rfl:os'=s.os:=os;exact⟨v,H',I.call (h':=hh) (g':=g) (d':=d) (t':=t) (ch:=[]) un hok bare (λb z=>absurd z (by simp)),r,q⟩
end
def zmg(sp:Sp)(dvs:List V)(E:XK)(t:TA):TE:=λσ H Q=>t σ H λvs H1=>sp (vs++dvs) H1 Q E
def Binds(K:PySem.W.Frag)(fd:FuncData)(ps:List Str)(ds:List Value):Prop :=
 ∀(s:Shared) (us:List Value),K.In s.heap->(us++ds).length=ps.length->BindsTo s fd ⟨us,[]⟩ (ps.zip (us++ds))
theorem Binds.all{K:PySem.W.Frag}{fd:FuncData}{ps:List Str}(h:∀us:List Value,us.length=ps.length->bindArgs fd ⟨us,[]⟩=pure (ps.zip us)):Binds K fd ps []:=λs us _ hl=>by
 rw[List.append_nil]at hl ⊢;exact .of_eq (h us hl)
def zia(CX:CXT)(X:Cx)(E:XK):Prop:=∀(pins:List (Addr×Obj)) (σ:St) (H:Hp) (s:Shared) (e:Value) (s':Shared),Inv X pins σ H s->CX X.stack H s E e s'->X.xe e s'
section
variable {X:Cx}{CX:CXT}{k:Nat}{f C:Addr}{fd:FuncData}{ps:List Str}{sp:Sp}{dvs:List V}{ds:List Value}{E:XK}{x m:Str}{p pos apos:Pos}{e o:Expr}{es:List Expr}{ta:TE}{t:TA}
theorem zmh{pins:List (Addr×Obj)}{σ:St}{H:Hp}{s:Shared}{Q:VK}{us:List Value}{vs:List V}(F:FnOk X.prog X.w X.K X.mg X.base CX k f fd ps sp)(hr:Room k X.A)(hb:Binds X.K fd ps ds)(hd:Vals dvs ds)(hx:zia CX X E)
  (I:Inv X pins σ H s) (r:Vals vs us) (h:sp (vs++dvs) H Q E):wpAny (model X.prog X.w) X.A (call (.ref f) us) (EP X pins σ Q) X.xe s:=by
 have r2:Vals (vs++dvs) (us++ds):=r.append hd;have hl:(us++ds).length=ps.length:=by rw[<-r2.length];exact F.len _ _ _ _ h
 refine wpAny_call (codeAny_mono (F.run X.A X.stack s H ⟨us,[]⟩ (us++ds) (vs++dvs) Q E hr I.env0 (hb s us I.kIn hl) r2 h) λr s' hq=>?_)
 cases r with
 |error e=>exact hx pins σ H s e s' I hq
 |ok fl=>
  cases fl with
  |ret u=>exact I.after hq
  |next=>exact False.elim hq
  |brk=>exact False.elim hq
  |cont=>exact False.elim hq
theorem zoz(F:FnOk X.prog X.w X.K X.mg X.base CX k f fd ps sp)(hr:Room k X.A)(hg:Gl X x)(hm:X.mg x=some (.ref f))(hk:PySem.W.keepIn X.K (.ref f)=true)(hb:Binds X.K fd ps ds)(hd:Vals dvs ds)(hx:zia CX X E)
  (ha:PA X (e::es) t) (hdb:(x ==("__debug__" : Str))=false:=by decide) (he:starEach (e::es) X.env=(false,eval e X.env)::starEach es X.env:=by rfl) (hpl:(backTo pos (starEach es X.env)).any (·.1)=false:=by rfl) :
  PE X (.Call (.Name x p) (e::es) [] pos) (zmg sp dvs E t):=by
 intro pins s σ H Q I h;refine wpAny_Call_Name_kw (ze3 I hg hm ?_ hdb);refine PySem.W.callWith_K (h₀:=X.base) I.ok.mod.kin hk (thn (ha pos pins s σ H _ I h) λus s1 ⟨vs,H1,I1,r,q⟩=>⟨I1.kIn,?_⟩) he hpl;exact zmh F hr hb hd hx I1 r q
structure Mk(K:PySem.W.Frag)(C f:Addr):Prop where
 makes:PySem.W.makesIn K C=true
 init:PySem.W.findIn K (.ref C) "__init__" = some (some (.ref f))
 fn:PySem.W.isFn K (.ref f)=true
 kp:PySem.W.keepIn K (.ref C)=true
end
section
variable {X:Cx}{CX:CXT}{k:Nat}{f C:Addr}{fd:FuncData}{ps ks:List Str}{sp:Sp}{E:XK}{x m:Str}{p pos apos kpos:Pos}{e o:Expr}{es:List Expr}{kws:List Keyword}{te ta:TE}{t tk:TA}{nm:Option Str}
structure zwj(K:PySem.W.Frag)(fd:FuncData)(ps ks:List Str)(g:List Value->List Value->List Value)(gV:List V->List V->List V):Prop where
 to:∀(s:Shared) (us ws:List Value),K.In s.heap->(g us ws).length=ps.length->BindsTo s fd ⟨us,ks.zip ws⟩ (ps.zip (g us ws))
 rel:∀{vs:List V}{us:List Value}{zs:List V}{ws:List Value},Vals vs us->Vals zs ws->Vals (gV vs zs) (g us ws)
variable {g:List Value->List Value->List Value}{gV:List V->List V->List V}
end
structure z0(N P:List Str)(sc:Scope):Prop where
 kind:sc.kind=.function
 co:sc.isCoroutine=false
 gen:sc.isGenerator=false
 nd:N.Nodup
 pre:N.take P.length=P
 par:∀x∈P,sc.names.lookup x=some .local\/sc.names.lookup x=some .cell
 nofree:∀y∈sc.names,y.2 ≠ .free
theorem zeg{kindOf:Str->Option NameKind}{x:Str}:∀{binds:List (Str×Value)}{m:Str->Option Value},(∀v,(x,v)∉binds)->bindL kindOf binds m x=m x
 |[],_,_=>rfl
 |(n,v)::r,m,h=>by
  unfold bindL;rw[zeg λw hw=>h w (List.mem_cons_of_mem _ hw)]
  split
  ·have:x≠n:=by rintro rfl;exact h v List.mem_cons_self
   simp[this]
  ·rfl
theorem zeh{kindOf:Str->Option NameKind}{x:Str}:∀{binds:List (Str×Value)}{m:Str->Option Value},(∀v,(x,v)∉binds)->bindC kindOf binds m x=m x
 |[],_,_=>rfl
 |(n,v)::r,m,h=>by
  unfold bindC;rw[zeh λw hw=>h w (List.mem_cons_of_mem _ hw)]
  split
  ·rfl
  ·have:x≠n:=by rintro rfl;exact h v List.mem_cons_self
   simp[this]
theorem zei{kindOf:Str->Option NameKind}{x:Str}{v:Value}:∀{P:List Str}{vs:List Value}{i:Nat}{m:Str->Option Value},P.Nodup->P[i]?=some x->vs[i]?=some v->kindOf x=some .local ->
  bindL kindOf (P.zip vs) m x=some v
 |[],_,_,_,_,h,_,_=>by simp at h
 |_::_,[],_,_,_,_,h,_=>by simp at h
 |p::P,w::vs,0,m,nd,h1,h2,hk=>by
  simp at h1 h2;subst h1;subst h2;show bindL kindOf ((p,w)::P.zip vs) m p=_;unfold bindL;rw[zeg λv hv=>(List.nodup_cons.mp nd).1 (List.of_mem_zip hv).1,if_pos hk];simp
 |p::P,w::vs,i+1,m,nd,h1,h2,hk=>by
  show bindL kindOf ((p,w)::P.zip vs) m x=_;unfold bindL;exact zei (i:=i) (List.nodup_cons.mp nd).2 (by simpa using h1) (by simpa using h2) hk
theorem zej{kindOf:Str->Option NameKind}{x:Str}{v:Value}:∀{P:List Str}{vs:List Value}{i:Nat}{m:Str->Option Value},P.Nodup->P[i]?=some x->vs[i]?=some v->kindOf x≠some .local ->
  bindC kindOf (P.zip vs) m x=some v
 |[],_,_,_,_,h,_,_=>by simp at h
 |_::_,[],_,_,_,_,h,_=>by simp at h
 |p::P,w::vs,0,m,nd,h1,h2,hk=>by
  simp at h1 h2;subst h1;subst h2;show bindC kindOf ((p,w)::P.zip vs) m p=_;unfold bindC;rw[zeh λv hv=>(List.nodup_cons.mp nd).1 (List.of_mem_zip hv).1,if_neg hk];simp
 |p::P,w::vs,i+1,m,nd,h1,h2,hk=>by
  show bindC kindOf ((p,w)::P.zip vs) m x=_;unfold bindC;exact zej (i:=i) (List.nodup_cons.mp nd).2 (by simpa using h1) (by simpa using h2) hk
def start(N:List Str)(vs:List V):St:=vs.map some++List.replicate (N.length-vs.length) none
def zb5(CX:CXT)(P:Program)(w:World)(K:PySem.W.Frag)(mg:Str->Option Value)(base:Heap)(N:List Str)(qual:Str)(scope:Scope)(f:Addr)(cd:Value)(A:Around)(outer:List Env)(s:Shared)(H:Hp)(E:XK):Cx where
 prog:=P
 w:=w
 K:=K
 mg:=mg
 base:=base
 A:=A.deeper (envOfC qual scope s.heap.objs.size f cd)
 N:=N
 s₀:=s
 H₀:=H
 env:=envOfC qual scope s.heap.objs.size f cd
 outer:=outer
 stack:=envOfC qual scope s.heap.objs.size f cd::outer
 ex:=[]
 calm:=true
 fn:=λ_=>true
 pn:=[]
 xe:=λe s'=>wpAny (model P w) (A.deeper (envOfC qual scope s.heap.objs.size f cd)) (leaving (envOfC qual scope s.heap.objs.size f cd) e) (λ_ s''=>CX outer H s E e s'') (λe' s''=>CX outer H s E e' s'') s'
theorem zgq{sc:Scope}{n:Nat}{x:Str}(h:sc.names.lookup x=some .cell):∃c,(cellsFrom n sc.names []).lookup x=some c:=by
 have q:=PySem.W.cellsFrom_some sc.names n [] (.inl h);exact Option.isSome_iff_exists.mp q
theorem zek{CX:CXT}{P:Program}{w:World}{K:PySem.W.Frag}{mg:Str->Option Value}{base:Heap}{N ps:List Str}{qual:Str}{scope:Scope}{f:Addr}{cd:Value}{A:Around}{outer:List Env}{s s1:Shared}{H:Hp}{E:XK}{us:List Value}{vs:List V}
  (S:z0 N ps scope) (hd:A.handled=none) (e0:Env0 P w K mg base A outer s H) (hl:vs.length=ps.length) (r:Vals vs us)
  (x:InCallC s s.heap.objs.size (bindL (envOfC qual scope s.heap.objs.size f cd).kindOf (ps.zip us) λ_=>none) (cellsFrom (s.heap.objs.size+1) scope.names []) (bindC (envOfC qual scope s.heap.objs.size f cd).kindOf (ps.zip us) λ_=>none) s1) :
  Inv (zb5 CX P w K mg base N qual scope f cd A outer s H E) [] (start N vs) H s1:=by
 have hpl:ps.length<=N.length:=by have:=congrArg List.length S.pre;rw[List.length_take]at this;omega
 obtain⟨h1,tk,rfl,hk⟩:=x.done;have noA:∀b:Addr,b∉(zb5 CX P w K mg base N qual scope f cd A outer s H E).ex:=λb z=>absurd (show b∈([]:List Addr) from z) (by simp);refine⟨⟨e0.mod,S.kind,rfl,rfl,Nat.le_refl _,λy z c h1 h2=>?_,λy hy=>?_,λy c _ h=>?_,λ_=>hd,Around.frames_deeper e0.frames,.inr ⟨rfl,rfl⟩,λb z=>absurd z (noA b),e0.bs,e0.bsz,λb _ _=>noA b,λb z=>absurd z (noA b),e0.funs,e0.frf⟩,
  rfl,e0.bare,Un.kept hk,⟨_,x.toInCall.ns,λi y v h1 h2 h3=>?_⟩,λy c h=>⟨_,x.cell y c h⟩,e0.hok.fresh (Nat.le_refl _),λy c h=>?_,λp hp=>absurd (show p∈([]:List (Addr×Obj)) from hp) (by simp),e0.hok.kept hk,?_⟩
 ·exact name_of_addr x.apart (PySem.mem_of_lookup h1) (PySem.mem_of_lookup h2)
 ·have hy:scope.names.lookup y=some .cell\/scope.names.lookup y=some .free:=hy;rcases hy with hy|hy
  ·exact zgq hy
  ·exact absurd rfl (S.nofree _ (PySem.mem_of_lookup hy))
 ·exact Nat.le_of_lt (x.above y c (PySem.mem_of_lookup h))
 ·have hi:i<vs.length:=by
   unfold start at h2
   by_cases hi:i<vs.length
   ·exact hi
   ·rw[List.getElem?_append_right (by simpa using hi)]at h2;rw[List.getElem?_replicate]at h2
    split at h2 <;> cases h2
  have ha:vs[i]?=some v:=by
   unfold start at h2;rw[List.getElem?_append_left (by simpa using hi),List.getElem?_map]at h2
   cases e:vs[i]? with
   |none=>rw[e]at h2;cases h2
   |some a=>rw[e]at h2;cases h2;rfl
  obtain⟨u,hu,rv⟩:=r.get ha;have hp:ps[i]?=some y:=by
   rw[<-S.pre,List.getElem?_take_of_lt (by omega)];exact h1
  have ndP:ps.Nodup:=by rw[<-S.pre];exact S.nd.sublist (List.take_sublist _ _)
  refine⟨u,rv,?_⟩;rcases S.par y (List.mem_of_getElem? hp) with k|k
  ·exact .inl ⟨k,zei ndP hp hu k⟩
  ·obtain⟨c,e⟩:=zgq (n:=s.heap.objs.size+1) k;refine .inr ⟨.inl k,c,e,?_⟩;have q:=x.cell y c e;rw[zej ndP hp hu (by show scope.names.lookup y≠_;rw[k];decide)]at q;exact q
 ·exact e0.hok.fresh (Nat.le_of_lt (x.above y c (PySem.mem_of_lookup h)))
 ·unfold start;show _=N.length;rw[List.length_append,List.length_map,List.length_replicate];omega
theorem zqu{CX:CXT}{P:Program}{w:World}{K:PySem.W.Frag}{mg:Str->Option Value}{base:Heap}{k:Nat}{f:Addr}{name qual:Str}{params:Arguments}{body:List Stmt}{scope:Scope}{dV kV doc pm cdv ct oc:Value}{an od:Option Addr}
  {osl:Array (Option Value)}{N ps:List Str}{sp:Sp} (lk:K.lookup f=some ⟨oc,od,.func (PySem.W.fnOf name qual params body scope dV kV doc pm an cdv ct),osl⟩) (hcd:PySem.W.codeIn K cdv qual=true) (S:z0 N ps scope)
  (len:∀vs H Q E,sp vs H Q E->vs.length=ps.length)
  (hbody:∀(A:Around) (outer:List Env) (s:Shared) (H:Hp) (vs:List V) (Q:VK) (E:XK),Room k (A.deeper (envOfC qual scope s.heap.objs.size f cdv))->sp vs H Q E ->
   ∃t,PSs (zb5 CX P w K mg base N qual scope f cdv A outer s H E) body t/\t { nx:=λ_ H'=>Q .non H',rt:=Q } (start N vs) H) :
  FnOk P w K mg base CX (k+1) f (PySem.W.fnOf name qual params body scope dV kV doc pm an cdv ct) ps sp:=by
 refine⟨len,λA outer s H args us vs Q E hr e0 hb r hsp=>?_⟩;have hl:=len _ _ _ _ hsp;have KX:K.In s.heap:=e0.mod.kin.keeps λb o e=>(e0.bs b o e).1;have lim:s.heap.NoLimit:=e0.mod.nolimit.keeps λb o e=>(e0.bs b o e).1;have hkind:∀y∈ps.zip us,scope.names.lookup y.1=some .local\/(scope.names.lookup y.1=some .cell/\((cellsFrom (s.heap.objs.size+1) scope.names []).lookup y.1).isSome=true):=λ⟨n,v⟩ hy=>by
  rcases S.par n (List.of_mem_zip hy).1 with q|q
  ·exact .inl q
  ·exact .inr ⟨q,PySem.W.cellsFrom_some _ _ _ (.inl q)⟩
 refine codeAny_call_function hr.depth (KX _ _ lk) rfl S.co S.gen rfl (PySem.W.codeRec_of KX hcd) (hb _ _ _ _ ?_);refine wpAny_newFunctionEnv_cells S.kind hkind λenv he s1 x=>?_;subst he;refine⟨lim.keeps x.toInCall.keep,codeAny_func ?_⟩;obtain⟨t,ht,hq⟩:=hbody A outer s H vs Q E (hr.deeper _) hsp;have I:Inv (zb5 CX P w K mg base N qual scope f cdv A outer s H E) [] (start N vs) H s1:=zek S hr.hd e0 hl r x;refine wpAny_mono (ht [] s1 (start N vs) H _ I hq) (λfl s' hs=>?_) λe s' hs=>hs;have fin:∀{σ':St}{H':Hp}{v:V}{u:Value},Inv (zb5 CX P w K mg base N qual scope f cdv A outer s H E) [] σ' H' s'->RelV v u->Q v H'->CE outer P w H s Q u s' :=
  λ{σ' H' v u} J rv q=>⟨v,H',J.os,J.bare,J.base,J.hok,rv,q⟩
 cases fl with
 |ret u=>
  obtain⟨v,σ',H',J,rv,q⟩:=hs;exact fin J rv q
 |next=>
  obtain⟨σ',H',J,q⟩:=hs;exact fin (v:=V.non) (u:=Value.none) J rfl q
 |brk=>
  obtain⟨_,_,_,q⟩:=hs;exact False.elim q
 |cont=>
  obtain⟨_,_,_,q⟩:=hs;exact False.elim q
section
variable {X:Cx}{x:Str}{p pos:Pos}{e:Expr}{es:List Expr}{t:TA}{id T:String}{r:List V->Hp->VK->Prop}
def tCB(r:List V->Hp->VK->Prop)(t:TA):TE:=λσ H Q=>t σ H λvs H1=>r vs H1 Q
theorem zai(hc:wz X (.builtin id) r)(hg:Gl X x)(hm:X.mg x=none)(hv:bootBuiltins x=some (.builtin id))(ha:PA X (e::es) t)(hn:x ≠ "__name__" := by decide)(hdb:(x ==("__debug__" : Str))=false:=by decide)
  (he:starEach (e::es) X.env=(false,eval e X.env)::starEach es X.env:=by rfl) (hpl:(backTo pos (starEach es X.env)).any (·.1)=false:=by rfl):PE X (.Call (.Name x p) (e::es) [] pos) (tCB r t):=by
 intro pins s σ H Q I h;refine wpAny_Call_Name_kw (qo I hg hm hv ?_ hn hdb);exact PyProof.Rows.callWith_builtin1 (thn (ha pos pins s σ H _ I h) λus s1 ⟨vs,H1,I1,r1,q1⟩=>hc pins s1 σ H1 vs us Q I1 r1 q1) he hpl
theorem zk8(hc:wz X (.type T) r)(hg:Gl X x)(hm:X.mg x=none)(hv:bootBuiltins x=some (.type T))(ha:PA X (e::es) t)(hn:x ≠ "__name__" := by decide)(hdb:(x ==("__debug__" : Str))=false:=by decide)
  (he:starEach (e::es) X.env=(false,eval e X.env)::starEach es X.env:=by rfl) (hpl:(backTo pos (starEach es X.env)).any (·.1)=false:=by rfl):PE X (.Call (.Name x p) (e::es) [] pos) (tCB r t):=by
 intro pins s σ H Q I h;refine wpAny_Call_Name_kw (qo I hg hm hv ?_ hn hdb);exact PyProof.Rows.callWith_type1 (thn (ha pos pins s σ H _ I h) λus s1 ⟨vs,H1,I1,r1,q1⟩=>hc pins s1 σ H1 vs us Q I1 r1 q1) he hpl
end
end L2
namespace HT
open PySem PyProof.Rows
section
open PySem.SeqAt
open PySem.AutoSeq1 (wpAny_loadPart')
open PySem.MeetsSeq PySem.MeetsSeq2 PySem.MeetsSeq3
end
section
variable {prog:Program}{w:World}{A:Around}{E:Value->Shared->Prop}{s:Shared}
theorem cat_tup{t b:Addr}{vs ws:List Value}{Q:Value->Shared->Prop}(ht:IsTup s.heap t vs.toArray)(hb:IsTup s.heap b ws.toArray)(hv:vs ≠ [])
  (h1:ws = []->Q (.ref t) s) (h2:ws ≠ []->Q (.ref s.heap.objs.size) { s with heap:=s.heap.push { cls:=.type "tuple",data:=.seq (vs++ws).toArray } })
  (hsz:vs.length+ws.length<=sizeLine):wpAny (model prog w) A (binaryOp .Add (.ref t) (.ref b)) Q E s:=by
 obtain⟨⟨cls,dd,data,sl⟩,ho,hc,n,hd⟩:=id ht;obtain⟨⟨cls2,dd2,data2,sl2⟩,ho2,hc2,n2,hd2⟩:=id hb;simp only at hc hd hc2 hd2;subst hc hd hc2 hd2;have e:vs.toArray++ws.toArray=(vs++ws).toArray:=by simp
 by_cases hw:ws = []
 ·exact concat_meets ⟨_,ho,rfl⟩ ⟨_,ho2,rfl⟩ noFill_tuple_add seq_tuple_add PySem.F.slot_tuple_add PySem.F.entry_tuple_add (PySem.F.args_tuple_add_2 _ _)
   (tuple_addW1 t b vs.toArray ws.toArray n n2 dd dd2 sl sl2 (by simpa using hv) (by simp[hw])) ⟨ho,ho2,h1 hw⟩
 ·refine concat_meets ⟨_,ho,rfl⟩ ⟨_,ho2,rfl⟩ noFill_tuple_add seq_tuple_add PySem.F.slot_tuple_add PySem.F.entry_tuple_add (PySem.F.args_tuple_add_2 _ _)
   (tuple_addW2 t b vs.toArray ws.toArray n n2 dd dd2 sl sl2 (by simpa using hv) (by simpa using hw) (by rw[List.size_toArray,List.size_toArray];exact hsz)) ⟨ho,ho2,?_⟩
  rw[e];exact h2 hw
def sIx(n d:Nat):Option Int->Nat
 |none=>d
 |some v=>if v<0 then (v+(n:Int)).toNat else min v.toNat n
theorem sIx_none(n d:Nat):sIx n d none=d:=rfl
theorem sIx_nat(n d k:Nat):sIx n d (some (k:Int))=min k n:=by
 show(if (k:Int)<0 then ((k:Int)+(n:Int)).toNat else min (k:Int).toNat n)=min k n;rw[if_neg (by omega),Int.toNat_natCast]
theorem zsc(n d:Nat)(hd:d<=n)(o:Option Int):sIx n d o<=n:=by
 cases o with
 |none=>exact hd
 |some v=>
  show(if v<0 then (v+(n:Int)).toNat else min v.toNat n)<=n
  by_cases hv:v<0
  ·rw[if_pos hv];omega
  ·rw[if_neg hv];exact Nat.min_le_right _ _
theorem zjw(v:Int)(n d:Nat):(if v<0 then max (v+(n:Int)) 0 else min v (n:Int))=((sIx n d (some v):Nat):Int):=by
 show(if v<0 then max (v+(n:Int)) 0 else min v (n:Int))=(((if v<0 then (v+(n:Int)).toNat else min v.toNat n):Nat):Int)
 by_cases hv:v<0
 ·simp only[if_pos hv];omega
 ·simp only[if_neg hv];omega
theorem zib(lo hi:Option Int)(n:Nat):Builtin.Slice.sliceAdjust lo hi 1 (n:Int)=(((sIx n 0 lo:Nat):Int),((sIx n n hi:Nat):Int)):=by
 have h1:¬ ((1:Int)<0):=by omega
 unfold Builtin.Slice.sliceAdjust;simp only[h1,if_false];refine Prod.ext ?_ ?_
 ·cases lo with
  |none=>rfl
  |some v=>exact zjw v n 0
 ·cases hi with
  |none=>rfl
  |some v=>exact zjw v n n
theorem zic(i j:Nat):Builtin.Slice.slicePlaces (i:Int) (j:Int) 1=j-i:=by
 unfold Builtin.Slice.slicePlaces;have h1:(1:Int) > 0:=by omega
 simp only[h1,if_true,Int.ediv_one]
 split <;> omega
theorem zcs{v:Value}{o:Option Int}{Q:Option Int->Shared->Prop}(p:IsPart v o)(h:Q o s):wpAny (model prog w) A (Builtin.Slice.slicePartIndex v) Q E s:=by
 cases p with
 |none=>exact slicePart_none h
 |int i t=>exact slicePart_int h
theorem sliceApplied_gen{sl:Addr}{vl vu:Value}{lo hi:Option Int}{n:Nat}{Q:Int×Int×Nat->Shared->Prop}(hs:s.heap.IsSliceOf sl vl vu .none)(pl:IsPart vl lo)(pu:IsPart vu hi)
  (h:Q (((sIx n 0 lo:Nat):Int),1,sIx n n hi-sIx n 0 lo) s):wpAny (model prog w) A (Builtin.Slice.sliceApplied (.ref sl) (pure (n:Int))) Q E s:=by
 obtain⟨os,hos,hcs,hds⟩:=id hs;unfold Builtin.Slice.sliceApplied Builtin.Slice.sliceFields;refine wpAny_bind (wpAny_bind (wpAny_field hos hds (x:=vl) rfl (wpAny_bind (wpAny_field hos hds (x:=vu) rfl (wpAny_bind (wpAny_field hos hds (x:=.none) rfl (wpAny_pure ?_)))))));refine wpAny_bind (slicePart_none ?_);show wpAny _ _ (if ((1:Int) == 0)=true then _ else _) _ _ s;rw[if_neg (by decide)];refine wpAny_bind (zcs pl (wpAny_bind (zcs pu (wpAny_bind (wpAny_pure ?_)))));show wpAny _ _ (match Builtin.Slice.sliceAdjust lo hi 1 (n:Int) with |(lo,hi)=>pure (lo,(1:Int),Builtin.Slice.slicePlaces lo hi 1)) _ _ s;rw[zib lo hi n];show wpAny _ _ (pure (((sIx n 0 lo:Nat):Int),(1:Int),Builtin.Slice.slicePlaces ((sIx n 0 lo:Nat):Int) ((sIx n n hi:Nat):Int) 1)) _ _ s;rw[zic];exact wpAny_pure h
theorem zmi(xs:Array Value)(i k:Nat):((List.range k).filterMap λ(m:Nat)=>xs[((i:Int)+(m:Int) * 1).toNat]?).toArray=((xs.toList.drop i).take k).toArray:=by
 have e:(λ(m:Nat)=>xs[((i:Int)+(m:Int) * 1).toNat]?)=λm=>xs[i+m]?:=by
  funext m
  have:((i:Int)+(m:Int) * 1).toNat=i+m:=by omega
  rw[this]
 rw[e];have:=pick_run xs i k;rw[List.filterMap_map]at this;have e2:((λx=>xs[x]?) ∘ λx=>i+x)=λm=>xs[i+m]?:=rfl;rw[e2]at this;rw[this]
theorem getItem_tuple_cut{t sl:Addr}{items:Array Value}{vl vu:Value}{lo hi:Option Int}{Q:Value->Shared->Prop}(ht:IsTup s.heap t items)(hs:s.heap.IsSliceOf sl vl vu .none)(pl:IsPart vl lo)(pu:IsPart vu hi)
  (hw:¬ (sIx items.size 0 lo=0/\sIx items.size items.size hi=items.size))
  (h:Q (.ref s.heap.objs.size) { s with heap:=s.heap.push { cls:=.type "tuple",data:=.seq ((items.toList.drop (sIx items.size 0 lo)).take (sIx items.size items.size hi-sIx items.size 0 lo)).toArray } })
  (hsz:items.size<=sizeLine):wpAny (model prog w) A (getItem (.ref t) (.ref sl)) Q E s:=by
 have htake:sizeOk (.seq ((items.toList.drop (sIx items.size 0 lo)).take (sIx items.size items.size hi-sIx items.size 0 lo)).toArray):=by
  show((items.toList.drop (sIx items.size 0 lo)).take (sIx items.size items.size hi-sIx items.size 0 lo)).toArray.size<=sizeLine;rw[List.size_toArray,List.length_take,List.length_drop,Array.length_toList];omega
 have hj:sIx items.size items.size hi<=items.size:=zsc _ _ (Nat.le_refl _) hi;obtain⟨os,hos,hcs,hds⟩:=id hs;have hTs:s.TypeIs (.ref sl) "slice" :=⟨os,hos,hcs⟩
 unfold getItem
 try with_reducible refine wpAny_holding ?_
 first|refine wpAny_bind (wpAny_pure ?_)|skip
 refine wpAny_bind (wpAny_sequenceKey ht.typeIs (by decide) ?_);refine wpAny_bind (wpAny_callSpecial?_slot (name:=Str.ofString "__getitem__") ht.typeIs PyProof.Rows.slot_tuple_getitem
  (wpAny_call_entry PyProof.Rows.slot_tuple_getitem ht.typeIs entry_tuple_getitem ?_ (args_tuple_getitem _ _)))
 show wpAny _ _ (Builtin.Tuple.tupleItemsOf (.ref t) >>= _) _ _ s;refine wpAny_bind (tupleItemsOf_ ht ?_);refine wpAny_bind (wpAny_typeOf hTs ?_);rw[if_pos (by decide)];refine wpAny_bind (sliceApplied_gen hs pl pu ?_);have hno:¬ ((((sIx items.size 0 lo:Nat):Int) == 0 && (1:Int) == 1 && (sIx items.size items.size hi-sIx items.size 0 lo) == items.size)=true):=by
  intro q;rw[Bool.and_eq_true,Bool.and_eq_true]at q;have q1:((sIx items.size 0 lo:Nat):Int)=0:=eq_of_beq q.1.1;have q2:sIx items.size items.size hi-sIx items.size 0 lo=items.size:=eq_of_beq q.2;exact hw ⟨by omega,by omega⟩
 show wpAny _ _ (if (((sIx items.size 0 lo:Nat):Int) == 0 && (1:Int) == 1 && (sIx items.size items.size hi-sIx items.size 0 lo) == items.size)=true then _ else _) _ _ s;rw[if_neg hno,zmi]
 first
  |exact wpAny_bind (m:=Builtin.Tuple.tupleExact _) (wpAny_newObj_type (wpAny_pure ⟨_,rfl,wpAny_pure h⟩) htake)
  |exact wpAny_bind (m:=Builtin.Tuple.tupleExact _) (wpAny_newObj_type (wpAny_bind (wpAny_pure (wpAny_pure ⟨_,rfl,wpAny_pure h⟩))) htake)
  |exact wpAny_bind (wpAny_bind (m:=Builtin.Tuple.tupleExact _) (wpAny_newObj_type (wpAny_pure (wpAny_pure ⟨_,rfl,wpAny_pure h⟩)) htake))
  |exact wpAny_bind (wpAny_bind (m:=Builtin.Tuple.tupleExact _) (wpAny_newObj_type (wpAny_pure ⟨_,rfl,wpAny_pure h⟩) htake))
end
end HT
namespace L2
open PySem PySem.Spec PyProof.Rows
abbrev TO:=St->Hp->(Option Int->Hp->Prop)->Prop
def PO(X:Cx)(e:Option Expr)(t:TO):Prop :=
 ∀(pins:List (Addr×Obj)) (s:Shared) (σ:St) (H:Hp) (Q:Option Int->Hp->Prop),Inv X pins σ H s->t σ H Q ->
  wpAny (model X.prog X.w) X.A (evalPart e X.env) (λu s'=>∃o H',Inv X pins σ H' s'/\IsPart u o/\Q o H') X.xe s
def zo0:TO:=λ_ H Q=>Q none H
def zux(t:TE):TO:=λσ H Q=>t σ H λx H1=>∃i,x=.int i/\Q (some i) H1
theorem wx{ns:List Int}:∀{us:List Value},Vals (ns.map V.int) us->IntsAre us ns:=by
 induction ns with
 |nil=>intro us r;rw[List.map_nil]at r;cases r;exact .nil
 |cons n ns ih=>
  intro us r;rw[List.map_cons]at r
  cases r with
  |cons r1 r2=>
   obtain⟨t,e⟩:=r1;subst e;exact .cons n t (ih r2)
section
variable {X:Cx}{e:Expr}{te:TE}{lo hi:Option Expr}{tl th:TO}{pos p2:Pos}
theorem zo1:PO X none zo0:=by
 intro pins s σ H Q I h;rw[evalPart_none];exact wpAny_pure ⟨none,H,I,.none,h⟩
theorem zo2(h:PE X e te):PO X (some e) (zux te):=by
 intro pins s σ H Q I hw;rw[evalPart_some];refine thn (h pins s σ H _ I hw) λu s1 ⟨x,H1,I1,r1,q1⟩=>?_;obtain⟨i,rfl,q⟩:=q1;obtain⟨t,rfl⟩:=r1;exact⟨some i,H1,I1,.int i t,q⟩
def SlR(X:Cx)(r:V->Option Int->Option Int->Hp->VK->Prop):Prop :=
 ∀(pins:List (Addr×Obj)) (s:Shared) (σ:St) (H:Hp) (x:V) (v vl vu:Value) (lo hi:Option Int) (sl:Addr) (Q:VK),Inv X pins σ H s->RelV x v->s.heap.IsSliceOf sl vl vu .none->IsPart vl lo->IsPart vu hi->r x lo hi H Q ->
  ∃T id,typeLookup (.type T) "__getitem__" = pure (some (.builtin id))/\s.TypeIs v T/\wpAny (model X.prog X.w) X.A (getItem v (.ref sl)) (EP X pins σ Q) X.xe s
theorem SlR.or{r r':V->Option Int->Option Int->Hp->VK->Prop}(h:SlR X r)(h':SlR X r'):SlR X (λx lo hi H Q=>r x lo hi H Q\/r' x lo hi H Q):=by
 intro pins s σ H x v vl vu lo hi sl Q I rx hs pl pu q;rcases q with q|q
 ·exact h pins s σ H x v vl vu lo hi sl Q I rx hs pl pu q
 ·exact h' pins s σ H x v vl vu lo hi sl Q I rx hs pl pu q
def tSl(r:V->Option Int->Option Int->Hp->VK->Prop)(te:TE)(tl th:TO):TE:=λσ H Q=>te σ H λx H1=>tl σ H1 λl H2=>th σ H2 λu H3=>r x l u H3 Q
theorem zgr{r:V->Option Int->Option Int->Hp->VK->Prop}(hr:SlR X r)(he:PE X e te)(hl:PO X lo tl)(hu:PO X hi th):PE X (.Subscript e (.Slice lo hi none p2) pos) (tSl r te tl th):=by
 intro pins s σ H Q I h;refine Subscript_ (thn (he pins s σ H _ I h) λv s1 ⟨x,H1,I1,r1,q1⟩=>?_);refine wpAny_Slice (thn (hl pins s1 σ H1 _ I1 q1) λvl s2 ⟨l,H2,I2,pl,q2⟩=>thn (hu pins s2 σ H2 _ I2 q2) λvu s3 ⟨u,H3,I3,pu,q3⟩=>?_);rw[evalPart_none];refine wpAny_pure ?_;have I4:Inv X pins σ H3 { s3 with heap:=s3.heap.push { cls:=.type "slice",data:=.fields #[vl,vu,.none] } }:=I3.kept (t':=s3.toks) λb ob q=>Heap.get?_push_of_some _ q;obtain⟨T,id,hT,ht,hg⟩:=hr pins { s3 with heap:=s3.heap.push { cls:=.type "slice",data:=.fields #[vl,vu,.none] } } σ H3 x v vl vu l u s3.heap.objs.size Q I4 r1 (Heap.IsSliceOf.new ..) pl pu q3;show wpAny (model X.prog X.w) X.A (subscriptTail e (.Slice lo hi none p2) v (.ref s3.heap.objs.size)) (EP X pins σ Q) X.xe { s3 with heap:=s3.heap.push { cls:=.type "slice",data:=.fields #[vl,vu,.none] } };exact tail_any (ops:=[.ref s3.heap.objs.size,v]) ht hT hg (by with_unfolding_all rfl)
def zd3(xs:List V)(lo hi:Option Int):List V:=(xs.drop (HT.sIx xs.length 0 lo)).take (HT.sIx xs.length xs.length hi-HT.sIx xs.length 0 lo)
theorem zbv(xs:List V)(lo hi:Option Int):(zd3 xs lo hi).length<=xs.length:=by
 unfold zd3;rw[List.length_take,List.length_drop];omega
def zwk(K:PySem.W.Frag):V->Option Int->Option Int->Hp->VK->Prop:=λx lo hi H Q=>∃a xs,x=.ref a/\SqT K H a xs /\
 ¬ (HT.sIx xs.length 0 lo=0/\HT.sIx xs.length xs.length hi=xs.length)/\∀p,H p=none->Q (.ref p) (upd H p (.tup (zd3 xs lo hi)))
theorem zsd:SlR X (zwk X.K):=by
 intro pins s σ H x v vl vu lo hi sl Q I rx hs pl pu h;obtain⟨a,xs,rfl,hx,hw,q⟩:=h
 cases rx;obtain⟨its,r,ht,hz⟩:=I.tuple hx;have hlen:its.toArray.size=xs.length:=by rw[List.size_toArray];exact r.length.symm
 refine⟨"tuple",_,PyProof.Rows.slot_tuple_getitem.lookup,ht.typeIs,?_⟩;refine HT.getItem_tuple_cut ht hs pl pu (by rw[hlen];exact hw) ?_ (by rw[hlen];exact hz);rw[hlen];refine⟨.ref s.heap.objs.size,_,I.laid (t':=s.toks) (o:=.tup (zd3 xs lo hi)) (λb ob q=>Heap.get?_push_of_some _ q) (Nat.le_refl _) ?_,rfl,q _ (I.hok.fresh (Nat.le_refl _))⟩;exact⟨Nat.le_trans (zbv xs lo hi) hz,_,(r.drop (HT.sIx xs.length 0 lo)).take (HT.sIx xs.length xs.length hi-HT.sIx xs.length 0 lo),TupD.new _ _⟩
theorem Vals.nil_iff{xs:List V}{us:List Value}(r:Vals xs us):us = []↔xs = []:=by
 cases r with
 |nil=>simp
 |cons _ _=>simp
end
def ixN(n:Nat)(i:Int):Option Nat:=if 0<=i then (if i<n then some i.toNat else none) else if -(n:Int)<=i then some (i+n).toNat else none
def atI{α:Type}(xs:List α)(i:Int):Option α:=(ixN xs.length i).bind λj=>xs[j]?
theorem zjx{n:Nat}{i:Int}{j:Nat}(h:ixN n i=some j):seqIndex? i n=some j/\j<n/\-(n:Int)<=i/\i<n:=by
 unfold ixN at h
 by_cases h0:0<=i
 ·rw[if_pos h0]at h
  by_cases h1:i<n
  ·rw[if_pos h1]at h;have e:i.toNat=j:=Option.some.inj h;exact⟨by rw[seqIndex_of h0 h1,e],by omega,by omega,h1⟩
  ·rw[if_neg h1]at h;cases h
 ·rw[if_neg h0]at h
  by_cases h1 : -(n:Int)<=i
  ·rw[if_pos h1]at h;have e:(i+n).toNat=j:=Option.some.inj h;exact⟨by rw[seqIndex_neg (by omega) h1,e],by omega,h1,by omega⟩
  ·rw[if_neg h1]at h;cases h
theorem ze8{α:Type}{xs:List α}{i:Int}{v:α}(h:atI xs i=some v):∃j,seqIndex? i xs.length=some j/\xs[j]?=some v/\j<xs.length/\-(xs.length:Int)<=i/\i<xs.length:=by
 unfold atI at h
 cases e:ixN xs.length i with
 |none=>rw[e]at h;cases h
 |some j=>
  rw[e]at h;obtain⟨h1,h2,h3,h4⟩:=zjx e;exact⟨j,h1,h,h2,h3,h4⟩
theorem zci{α:Type}{xs:List α}{j:Nat}{v:α}(h:xs[j]?=some v):atI xs (j:Int)=some v:=by
 have hj:j<xs.length:=(List.getElem?_eq_some_iff.mp h).1;have e:ixN xs.length (j:Int)=some j:=by
  unfold ixN;rw[if_pos (by omega),if_pos (by omega)];simp
 unfold atI;rw[e];exact h
theorem zgs{α:Type}(xs:List α)(v:α):atI (xs ++ [v]) (-1)=some v:=by
 have hl:(xs ++ [v]).length=xs.length+1:=by simp
 have e:ixN (xs ++ [v]).length (-1)=some xs.length:=by
  unfold ixN;rw[hl,if_neg (by decide),if_pos (by omega)];congr 1;omega
 unfold atI;rw[e];show(xs ++ [v])[xs.length]?=some v;simp
def ze9(b:Expr):Prop:=∀o i,subscripted b false o i=operate [o,i] (getItem o i)
def IxR(X:Cx)(r:R2):Prop :=
 ∀(value slice:Expr) (pins:List (Addr×Obj)) (s:Shared) (σ:St) (H:Hp) (x y:V) (v u:Value) (Q:VK),Inv X pins σ H s->RelV x v->RelV y u->r x y H Q ->
  subscripted slice false v u=operate [v,u] (getItem v u)->wpAny (model X.prog X.w) X.A (subscriptTail value slice v u) (EP X pins σ Q) X.xe s
def MtR(X:Cx)(id:String)(r:V->List V->Hp->VK->Prop):Prop :=
 ∀(pins:List (Addr×Obj)) (s:Shared) (σ:St) (H:Hp) (x:V) (xs:List V) (v:Value) (us:List Value) (Q:VK),Inv X pins σ H s->RelV x v->Vals xs us->r x xs H Q ->
  wpAny (model X.prog X.w) X.A (call (.builtin id) (v::us)) (EP X pins σ Q) X.xe s
section
variable {X:Cx}{a b:Expr}{ta tb:TE}{pos:Pos}
theorem IxR.or{r r':R2}(h:IxR X r)(h':IxR X r'):IxR X (λx y H Q=>r x y H Q\/r' x y H Q):=by
 intro value slice pins s σ H x y v u Q I rx ry q hs;rcases q with q|q
 ·exact h value slice pins s σ H x y v u Q I rx ry q hs
 ·exact h' value slice pins s σ H x y v u Q I rx ry q hs
theorem zbw{r:R2}(hr:IxR X r)(ha:PE X a ta)(hb:PE X b tb)(hs:ze9 b):PE X (.Subscript a b pos) (tOp r ta tb):=by
 intro pins s σ H Q I h;exact Subscript_ (zuo ha hb I h λv u s2 x y H2 I2 rx ry q=>hr a b pins s2 σ H2 x y v u Q I2 rx ry q (hs _ _))
def zuy(K:PySem.W.Frag):R2:=λx y H Q=>∃p xs i v,x=.ref p/\y=.int i/\SqL K H p xs/\atI xs i=some v/\Q v H
def zuz(K:PySem.W.Frag):R2:=λx y H Q=>∃p xs i v,x=.ref p/\y=.int i/\SqT K H p xs/\atI xs i=some v/\Q v H
def zu0:R2:=λx y H Q=>∃z i c,x=.str z/\y=.int i/\z.length<=sizeLine/\atI z.cps.toList i=some c/\Q (.str ⟨#[c]⟩) H
theorem ix_list:IxR X (zuy X.K):=by
 intro value slice pins s σ H x y v u Q I rx ry h hs;obtain⟨p,xs,i,z,rfl,rfl,hq,he,q⟩:=h
 cases rx;obtain⟨t,rfl⟩:=ry;obtain⟨its,r,pl,hz⟩:=I.list hq;obtain⟨j,h1,h2,h3,h4,h5⟩:=ze8 he;obtain⟨w,ew,rw'⟩:=r.get h2;have hl:=r.length;have hn:=j3;have fin:EP X pins σ Q w s:=⟨z,H,I,rw',q⟩
 by_cases h0:0<=i
 ·have hj:i.toNat=j:=by
   rw[seqIndex_of h0 h5]at h1;exact Option.some.inj h1
  exact item_listR pl.isList h0 (by omega) (by rw[hj];simpa using ew) fin hs
 ·have hj:(i+(its.toArray.size:Int)).toNat=j:=by
   rw[seqIndex_neg (by omega) h4]at h1;rw[List.size_toArray,<-hl];exact Option.some.inj h1
  exact subscriptTail_builtinR (x:=w) pl.isList.typeIs slot_list_getitem.lookup
   (wpAny_getItem_list_neg (Q:=λr s'=>r=w/\EP X pins σ Q r s') pl.isList (by omega) (by rw[List.size_toArray] <;> omega) (by omega) (by rw[hj];simpa using ew) ⟨rfl,fin⟩) hs
theorem ix_tup:IxR X (zuz X.K):=by
 intro value slice pins s σ H x y v u Q I rx ry h hs;obtain⟨p,xs,i,z,rfl,rfl,hq,he,q⟩:=h
 cases rx;obtain⟨t,rfl⟩:=ry;obtain⟨its,r,pl,hz⟩:=I.tuple hq;obtain⟨j,h1,h2,h3,h4,h5⟩:=ze8 he;obtain⟨w,ew,rw'⟩:=r.get h2;have hl:=r.length;have hn:=j3;have fin:EP X pins σ Q w s:=⟨z,H,I,rw',q⟩
 exact subscriptTail_builtinR (x:=w) pl.typeIs slot_tuple_getitem.lookup
  (getItem_tuple (j:=j) (Q:=λr s'=>r=w/\EP X pins σ Q r s') pl (by omega) (by omega) (by rw[List.size_toArray,<-hl];exact h1) (by simpa using ew) ⟨rfl,fin⟩) hs
theorem zse:IxR X zu0:=by
 intro value slice pins s σ H x y v u Q I rx ry h hs;obtain⟨z,i,c,rfl,rfl,hz,he,q⟩:=h;obtain⟨t,rfl⟩:=rx;obtain⟨t',rfl⟩:=ry;obtain⟨j,h1,h2,h3,h4,h5⟩:=ze8 he;have hl:z.cps.toList.length=z.length:=by simp[Str.length]
 rw[hl]at h1 h4 h5;have hn:=j3;exact tail_any (typeIs_str s z t) slot_str_getitem.lookup (getItem_str (c:=c) (by
  have e1:decide (i < -(2 ^ 63:Int))=false:=decide_eq_false (by omega);have e2:decide (i ≥ 2 ^ 63)=false:=decide_eq_false (by omega);rw[e1,e2,Bool.or_false]) (by rw[h1];simpa using h2) ⟨.str ⟨#[c]⟩,H,I.tok _,⟨_,rfl⟩,q⟩) hs
def rIx(K:PySem.W.Frag):R2:=λx y H Q=>zuy K x y H Q\/zuz K x y H Q\/zu0 x y H Q
theorem zsf:IxR X (rIx X.K):=ix_list.or (ix_tup.or zse)
theorem zid(its:List Value)(n j:Nat)(u:Value):Obj.mapSeq (·.setIfInBounds j u) { cls:=.type "list",data:=.seq its.toArray n } = { cls:=.type "list",data:=.seq (its.set j u).toArray n }:=by
 simp[Obj.mapSeq]
theorem Inv.lst{pins:List (Addr×Obj)}{σ:St}{H:Hp}{s:Shared}{p:Addr}{xs:List V}(I:Inv X pins σ H s)(h:H p=some (.lst xs)):
  ∃(its:List Value) (n:Nat),Vals xs its/\s.heap.get? p=some { cls:=.type "list",data:=.seq its.toArray n }/\xs.length<=sizeLine:=by
 obtain⟨z,its,n,r,e⟩:=I.hok p _ h;exact⟨its,n,r,e,z⟩
theorem Inv.lstUpd{pins:List (Addr×Obj)}{σ:St}{H:Hp}{s:Shared}{p:Addr}{xs ys:List V}{its its':List Value}{n n':Nat}{f:Obj->Obj}(I:Inv X pins σ H s)(h:H p=some (.lst xs))
  (ho:s.heap.get? p=some { cls:=.type "list",data:=.seq its.toArray n }) (hf:f { cls:=.type "list",data:=.seq its.toArray n } = { cls:=.type "list",data:=.seq its'.toArray n' }) (r:Vals ys its') (hz:ys.length<=sizeLine) (t:Nat) :
  Inv X pins σ (upd H p (.lst ys)) { s with heap:=s.heap.update p f,toks:=t }:=by
 have e:(s.heap.update p f).get? p=some { cls:=.type "list",data:=.seq its'.toArray n' }:=by
  rw[Heap.get?_update_self f ho (by rw[hf] <;> rfl),hf]
 refine I.write (x:=p) (e:=p) (by rw[h];trivial) (.inl rfl) (λb u hb q=>(Heap.get?_update_other _ _ (Ne.symm hb)).trans q) ⟨_,e⟩ ?_;exact⟨hz,its',n',r,e⟩
def zu1:V->V->V->Hp->(Hp->Prop)->Prop:=λo i v H Q=>∃p xs k j,o=.ref p/\i=.int k/\H p=some (.lst xs)/\ixN xs.length k=some j/\Q (upd H p (.lst (xs.set j v)))
theorem zct:zum X zu1:=by
 intro pins s σ H o i v ov iv u Q I ro ri rv h;obtain⟨p,xs,k,j,rfl,rfl,hp,hj,q⟩:=h
 cases ro;obtain⟨t,rfl⟩:=ri;obtain⟨its,n,r,ho,hz⟩:=I.lst hp;obtain⟨h1,h2,h3,h4⟩:=zjx hj;have hl:=r.length;have hn:=j3;have I':Inv X pins σ (upd H p (.lst (xs.set j v))) { s with heap:=s.heap.update p (Obj.mapSeq (·.setIfInBounds j u)) } :=
  I.lstUpd hp ho (zid its n j u) (r.set rv j) (by rw[List.length_set];exact hz) s.toks
 by_cases h0:0<=k
 ·have hk:k.toNat=j:=by
   rw[seqIndex_of h0 h4]at h1;exact Option.some.inj h1
  exact PySem.W.ki_setAt ho h0 (by omega) (by rw[List.size_toArray,<-hl];exact h4) (by rw[hk];exact⟨_,I',q⟩)
 ·have hk:(k+(its.toArray.size:Int)).toNat=j:=by
   rw[seqIndex_neg (by omega) h3]at h1;rw[List.size_toArray,<-hl];exact Option.some.inj h1
  exact PySem.W.ki_setBack ho (by omega) (by rw[List.size_toArray,<-hl];exact h3) (by omega) (by rw[hk];exact⟨_,I',q⟩)
theorem zfa(lo hi:Option Int)(n:Nat):(sliceBounds lo hi none n).1=((HT.sIx n 0 lo:Nat):Int)/\(sliceBounds lo hi none n).2.1=((HT.sIx n n hi:Nat):Int)/\(sliceBounds lo hi none n).2.2=1:=by
 refine⟨?_,?_,rfl⟩
 ·cases lo with
  |none=>simp[sliceBounds,HT.sIx]
  |some i=>
   simp only[sliceBounds,HT.sIx,Option.getD_none,show(1:Int) > 0 by decide,if_true]
   by_cases h:i<0
   ·simp only[h,if_true] <;> omega
   ·simp only[h,if_false] <;> omega
 ·cases hi with
  |none=>simp[sliceBounds,HT.sIx]
  |some i=>
   simp only[sliceBounds,HT.sIx,Option.getD_none,show(1:Int) > 0 by decide,if_true]
   by_cases h:i<0
   ·simp only[h,if_true] <;> omega
   ·simp only[h,if_false] <;> omega
theorem zd4(its:List Value)(lo hi:Option Int):slicePick its.toArray lo hi none=((its.drop (HT.sIx its.length 0 lo)).take (HT.sIx its.length its.length hi-HT.sIx its.length 0 lo)).toArray:=by
 obtain⟨h1,h2,h3⟩:=zfa lo hi its.toArray.size;unfold slicePick;rw[h1,h2,h3];simp only[sliceRange_one,pick_run,List.size_toArray] <;> rfl
def zwl(K:PySem.W.Frag):V->Option Int->Option Int->Hp->VK->Prop:=λx lo hi H Q=>∃a xs,x=.ref a/\SqL K H a xs/\∀p,H p=none->Q (.ref p) (upd H p (.lst (zd3 xs lo hi)))
theorem zjy:SlR X (zwl X.K):=by
 intro pins s σ H x v vl vu lo hi sl Q I rx hs pl pu h;obtain⟨a,xs,rfl,hx,q⟩:=h
 cases rx;obtain⟨its,r,ht,hz⟩:=I.list hx;have hlen:=r.length;refine⟨"list",_,slot_list_getitem.lookup,ht.isList.typeIs,?_⟩;refine wpAny_getItem_list_slice ht.isList hs pl pu .none (by simp) ?_ (by rw[List.size_toArray] <;> omega);rw[zd4,<-hlen];refine⟨.ref s.heap.objs.size,_,I.laid (t':=s.toks) (o:=.lst (zd3 xs lo hi)) (λb ob q=>Heap.get?_push_of_some _ q) (Nat.le_refl _) ?_,rfl,q _ (I.hok.fresh (Nat.le_refl _))⟩;exact⟨Nat.le_trans (zbv xs lo hi) hz,_,0,(r.drop (HT.sIx xs.length 0 lo)).take (HT.sIx xs.length xs.length hi-HT.sIx xs.length 0 lo),Heap.get?_push_size _ rfl⟩
theorem zfb:wz X (.builtin "len") (λxs H Q=>∃p ys,xs = [.ref p]/\(SqL X.K H p ys\/SqT X.K H p ys)/\Q (.int ys.length) H):=by
 intro pins s σ H xs us Q I r h;obtain⟨p,ys,rfl,hq,q⟩:=h;obtain⟨u,rfl,rx⟩:=zgp r
 cases rx;have hn:=j3;rcases hq with hq|hq
 ·obtain⟨its,r',pl,hz⟩:=I.list hq;have hlen:=r'.length;exact Calls.call_len_list pl.isList (by simp only[List.size_toArray] <;> omega) ⟨.int ys.length,H,I.tok _,⟨s.toks+1,by rw[List.size_toArray,hlen]⟩,q⟩
 ·obtain⟨its,r',pl,hz⟩:=I.tuple hq;have hlen:=r'.length;exact len_tuple pl (by simp only[List.size_toArray] <;> omega) ⟨.int ys.length,H,I.tok _,⟨s.toks+1,by rw[List.size_toArray,hlen]⟩,q⟩
theorem zd5:wz X (.type "tuple") (λxs H Q=>∃p ys,xs = [.ref p]/\((SqL X.K H p ys/\∀l,H l=none->Q (.ref l) (upd H l (.tup ys)))\/(SqT X.K H p ys/\Q (.ref p) H))):=by
 intro pins s σ H xs us Q I r h;obtain⟨p,ys,rfl,h⟩:=h;obtain⟨u,rfl,rx⟩:=zgp r
 cases rx;rcases h with⟨hq,q⟩ |⟨hq,q⟩
 ·obtain⟨its,r',pl,hz⟩:=I.list hq;have hlen:=r'.length;refine call_tuple_list pl.isList (λh' kp=>?_) (by simp only[List.size_toArray] <;> omega);have I1:Inv X pins σ H { s with heap:=h' }:=I.kept (t':=s.toks) kp
  have I2:Inv X pins σ (upd H h'.objs.size (.tup ys)) { s with heap:=h'.push { cls:=.type "tuple",data:=.seq its.toArray } } :=
   I1.laid (t':=s.toks) (λb o e=>Heap.get?_push_of_some _ e) (Nat.le_refl _) (show ObjOk X.prog X.w _ _ _ (.tup ys) from⟨hz,its,r',TupD.new _ _⟩)
  exact⟨.ref h'.objs.size,_,I2,rfl,q _ (I1.hok.fresh (Nat.le_refl _))⟩
 ·obtain⟨its,r',pl,hz⟩:=I.tuple hq;exact call_tuple_same pl ⟨.ref p,H,I,rfl,q⟩
def tyV(K:PySem.W.Frag)(T:String)(x:V)(H:Hp):Prop:=match x with
 |.str _=>T = "str"
 |.int _=>T = "int"
 |.ref p=>(T = "list" /\ ∃xs,SqL K H p xs)\/(T = "tuple" /\ ∃xs,SqT K H p xs) \/
   (T = "dict" /\((∃kvs,H p=some (.dK kvs))\/∃kvs,H p=some (.dT kvs)))\/(T = "set" /\ ∃S n,H p=some (.set S n))
 |_=>False
theorem zsg{pins:List (Addr×Obj)}{σ:St}{H:Hp}{s:Shared}{T:String}{x:V}{v:Value}(I:Inv X pins σ H s)(r:RelV x v)(ty:tyV X.K T x H):
  s.TypeIs v T/\∀a,v=.ref a->∃ob,s.heap.get? a=some ob/\ob.dict=none:=by
 cases x with
 |str z=>
  obtain⟨t,rfl⟩:=r
  cases (show T = "str" from ty);exact⟨typeIs_str s z t,λ_ e=>nomatch e⟩
 |int i=>
  obtain⟨t,rfl⟩:=r
  cases (show T = "int" from ty);exact⟨typeIs_int s i t,λ_ e=>nomatch e⟩
 |ref p=>
  cases r;rcases ty with⟨rfl,xs,hq⟩ |⟨rfl,xs,hq⟩ |⟨rfl,hk⟩ |⟨rfl,S,n,hk⟩
  ·obtain⟨its,_,pl,_⟩:=I.list hq;refine⟨pl.isList.typeIs,λa e=>?_⟩
   cases e;obtain⟨o,n,e,c,hd,_⟩:=pl;exact⟨o,e,hd⟩
  ·obtain⟨its,_,pl,_⟩:=I.tupleD hq;refine⟨pl.isTup.typeIs,λa e=>?_⟩
   cases e;obtain⟨o,e,_,_,hd⟩:=pl;exact⟨o,e,hd⟩
  ·have z:∃o,s.heap.get? p=some o/\o.ExactDict:=by
    rcases hk with⟨kvs,hk⟩ |⟨kvs,hk⟩
    ·obtain⟨_,_,_,_,o,_,_,e,ex,_⟩:=I.hok p _ hk;exact⟨o,e,ex⟩
    ·obtain⟨_,_,_,_,o,_,_,e,ex,_⟩:=I.hok p _ hk;exact⟨o,e,ex⟩
   obtain⟨o,e,ex⟩:=z;refine⟨⟨o,e,ex.1⟩,λa e2=>?_⟩
   cases e2;exact⟨o,e,ex.2.1⟩
  ·obtain⟨o,_,_,_,e,ex,_⟩:=I.hok p _ hk;refine⟨⟨o,e,ex.1⟩,λa e2=>?_⟩
   cases e2;exact⟨o,e,ex.2.1⟩
 |_=>exact False.elim ty
def tBM(K:PySem.W.Frag)(T:String)(r:V->List V->Hp->VK->Prop)(to:TE)(t:TA):TE:=λσ H Q=>to σ H λx H1=>tyV K T x H1/\t σ H1 λxs H2=>r x xs H2 Q
variable {o e:Expr}{es:List Expr}{to:TE}{t:TA}{name:Str}{apos cpos:Pos}{T id:String}{r:V->List V->Hp->VK->Prop}
theorem zqv(pa:PlainAttrs T)(slot:Slot T name id)(hty:typeOf (.builtin id)=pure (.type "method_descriptor"))(hm:MtR X id r)(ho:PE X o to)(ha:PA X (e::es) t)
  (hbase:attributeBase o name X.env (eval o X.env)=eval o X.env:=by rfl)
  (hfew:((backTo cpos (starEach (e::es) X.env)).all (λx=>!x.1) && (backToKw cpos (keywordEach [] X.env)).all (λx=>x.1.isSome)
   && decide ((e::es).length+([]:List Keyword).length+(if ([]:List Keyword).isEmpty then 0 else 1)<30))=true:=by rfl)
  (hline:(apos.endLine == cpos.line)=true:=by rfl) (hs:starEach (e::es) X.env=(false,eval e X.env)::starEach es X.env:=by rfl) (hplain:(backTo cpos (starEach es X.env)).any (·.1)=false:=by rfl) :
  PE X (.Call (.Attribute o name apos) (e::es) [] cpos) (tBM X.K T r to t):=by
 intro pins s σ H Q I h;refine wpAny_Call_method_late hbase hfew hline rfl (thn (ho pins s σ H _ I h) λv s1 ⟨x,H1,I1,r1,ty,q1⟩=>?_);obtain⟨h1,h2⟩:=zsg I1 r1 ty;refine⟨T,id,pa,slot,hty,h1,h2,?_⟩;have hA:=ha cpos pins s1 σ H1 _ I1 q1;rw[hs]at hA ⊢;refine Calls.callWith_builtin (by show(false ||(backTo cpos (starEach es X.env)).any (·.1))=false;rw[hplain] <;> rfl) (Calls.evalArgs_plain ?_);exact thn hA λus s2 ⟨vs,H2,I2,r2,q2⟩=>hm pins s2 σ H2 x vs v us Q I2 r1 r2 q2
end
def MtM(X:Cx)(id:String)(r:V->List V->Hp->VK->Prop):Prop :=
 ∀(pins:List (Addr×Obj)) (s:Shared) (σ:St) (H:Hp) (x:V) (xs:List V) (v:Value) (us:List Value) (Q:VK),Inv X pins σ H s->RelV x v->Vals xs us->r x xs H Q ->
  wpAny (model X.prog X.w) X.A (call (.builtin id) (v::us)) (EP X pins σ Q) X.xe s
theorem Vals.one{x:V}{us:List Value}(h:Vals [x] us):∃u,us = [u]/\RelV x u:=by
 cases h with
 |cons r h=>cases h;exact⟨_,rfl,r⟩
theorem Vals.two{x y:V}{us:List Value}(h:Vals [x,y] us):∃u v,us = [u,v]/\RelV x u/\RelV y v:=by
 cases h with
 |cons r h=>obtain⟨v,rfl,q⟩:=Vals.one h;exact⟨_,v,rfl,r,q⟩
theorem Vals.zero:∀{us:List Value},Vals [] us->us = []
 |_,.nil=>rfl
theorem Vals.reverse{xs:List V}{us:List Value}(h:Vals xs us):Vals xs.reverse us.reverse:=by
 induction h with
 |nil=>exact .nil
 |cons r t ih=>rw[List.reverse_cons,List.reverse_cons];exact Vals.append ih (.cons r .nil)
theorem Vals.rep{xs:List V}{us:List Value}(h:Vals xs us):∀k:Nat,Vals (List.replicate k xs).flatten (List.replicate k us).flatten
 |0=>.nil
 |k+1=>by
  rw[List.replicate_succ,List.replicate_succ,List.flatten_cons,List.flatten_cons];exact Vals.append h (Vals.rep h k)
theorem zel(its:List Value):∀(k:Nat) (acc:List Value),
  List.foldl (λx1 x2=>x1++x2) acc.toArray (List.replicate k its.toArray)=(acc++(List.replicate k its).flatten).toArray
 |0,acc=>by simp
 |k+1,acc=>by
  have e:acc.toArray++its.toArray=(acc++its).toArray:=by simp
  have e2:(acc++its)++(List.replicate k its).flatten=acc++(List.replicate (k+1) its).flatten:=by
   rw[List.replicate_succ,List.flatten_cons,List.append_assoc]
  rw[<-e2,<-zel its k (acc++its),<-e,List.replicate_succ,List.foldl_cons]
section
variable {X:Cx}{pins:List (Addr×Obj)}{σ:St}{H:Hp}{s:Shared}{l b:Addr}{xs ys zs:List V}
theorem Inv.lset{its its':List Value}{n:Nat}{f:Array Value->Array Value}{t':Nat}(I:Inv X pins σ H s)(hH:H l=some (.lst xs))
  (e:s.heap.get? l=some { cls:=.type "list",data:=.seq its.toArray n }) (hf:f its.toArray=its'.toArray) (hv:Vals ys its') (hz:ys.length<=sizeLine) :
  Inv X pins σ (upd H l (.lst ys)) { s with heap:=s.heap.update l (Obj.mapSeq f),toks:=t' }:=by
 have q:=PySem.IsL.update e f;rw[hf]at q;refine I.write (x:=l) (e:=l) (by rw[hH];exact trivial) (.inl rfl) (λb' u hb hu=>(Heap.get?_update_other s.heap (Obj.mapSeq f) (Ne.symm hb)).trans hu) ⟨_,q⟩ ?_;exact⟨hz,its',_,hv,q⟩
theorem Inv.lnew{its:List Value}{t':Nat}(I:Inv X pins σ H s)(hv:Vals ys its)(hz:ys.length<=sizeLine):
  Inv X pins σ (upd H s.heap.objs.size (.lst ys)) { s with heap:=s.heap.push { cls:=.type "list",data:=.seq its.toArray },toks:=t' } :=
 I.laid (λ_ _ q=>Heap.get?_push_of_some _ q) (Nat.le_refl _) ⟨hz,its,0,hv,Heap.get?_push_size _ rfl⟩
theorem Inv.fresh(I:Inv X pins σ H s):H s.heap.objs.size=none:=I.hok.fresh (Nat.le_refl _)
theorem Inv.lstM(I:Inv X pins σ H s)(hH:H l=some (.lst xs)):xs.length<=sizeLine/\∃(its:List Value) (n:Nat),Vals xs its/\xs.length=its.length/\s.heap.get? l=some { cls:=.type "list",data:=.seq its.toArray n }:=by
 obtain⟨z,its,n,r,e⟩:=I.hok l _ hH;exact⟨z,its,n,r,r.length,e⟩
theorem zmj{n:Nat}(h:n<=sizeLine):Builtin.List.listTooLong n=false:=by
 unfold Builtin.List.listTooLong;exact decide_eq_false (by omega)
end
section
variable {X:Cx}
def zo3:V->List V->Hp->VK->Prop:=λx vs H Q=>∃l xs y,x=.ref l/\vs = [y]/\H l=some (.lst xs)/\xs.length<sizeLine/\Q .non (upd H l (.lst (xs ++ [y])))
theorem zba:MtM X "list.append" zo3:=by
 intro pins s σ H x vs v us Q I rx rv h;obtain⟨l,xs,y,rfl,rfl,hH,hz,q⟩:=h
 cases rx;obtain⟨u,rfl,ru⟩:=rv.one;obtain⟨z,its,n,r,hl,e⟩:=I.lstM hH;refine call_meets F.slot_list_append ⟨_,e,rfl⟩ F.entry_list_append (F.args_list_append_2 _ _) (PySem.list_append l its.toArray n u (by rw[List.size_toArray];omega)) ⟨e,?_⟩;refine⟨.non,_,I.lset (its':=its ++ [u]) hH e (by simp) (r.append (.cons ru .nil)) ?_,rfl,q⟩;rw[List.length_append,List.length_singleton];omega
theorem zo4{α:Type}(xs:List α)(k:Nat):(List.replicate k xs).flatten.length=k * xs.length:=by
 induction k with
 |zero=>simp
 |succ k ih=>rw[List.replicate_succ,List.flatten_cons,List.length_append,ih,Nat.succ_mul,Nat.add_comm]
end
section
variable {prog:Program}{w:World}{A:Around}{E:Value->Shared->Prop}{s:Shared}
end
section
variable {X:Cx}
end
end L2
namespace Att
open PySem PySem.W PySem.Calls PyProof.Rows
theorem zb6{P:Params}{h:Heap}:∀(ns:List Int) (vs:List Value),WellAll P h vs (ns.map WData.int)->IntsAre vs ns:=by
 intro ns
 induction ns with
 |nil=>
  intro vs w;rw[List.map_nil]at w
  cases w;exact .nil
 |cons n ns ih=>
  intro vs w;rw[List.map_cons]at w
  cases w with
  |cons a b=>
   cases a;exact .cons _ _ (ih _ b)
theorem zk9{l:OpenLaw}{n:Nat}(hn:l.most=some n){P:Params}{h:Heap}{args:List WData}{vals:List Value}
  (hpre:l.row.toRowW.claim.pre args=true) (hwl:WellAll P h vals args) :
  ∃a vs ns,vals = [Value.ref a]/\args = [WData.list (ns.map WData.int)]/\h.get? a=some { cls:=.type "list",data:=.seq vs.toArray }/\IntsAre vs ns/\ns.length<=n:=by
 have hsh:WShape.hasAll [] args [.list .int]=true:=(pre_splitW hpre).1;have hc:l.pre.holds [] { args:=args }=true:=(pre_splitW hpre).2;obtain⟨d,r,rfl,h1,h2⟩:=hasAllW_cons hsh;obtain rfl:=hasAllW_nil h2;obtain⟨xs,rfl,h3⟩:=hasW_list h1;obtain⟨ns,rfl⟩:=items_int h3;have hlen:ns.length<=n:=by
  unfold OpenLaw.pre at hc;have h4:(WTm.not (.lt (.lit (.int (n:Int))) (.len (.arg 0)))).holds [] { args:=[.list (ns.map .int)] }=true:=by
   have h4:=(holds_andW hc).1;rw[hn]at h4;exact h4
  have h5:=condW_of h4 (w_not (w_lt w_lit (w_len_list (w_arg rfl))));rw[List.length_map]at h5;refine Nat.le_of_not_lt λq=>?_;have q':(n:Int)<((ns.length:Nat):Int):=by omega
  first
   |(rw[decide_eq_true q']at h5;exact absurd h5 (by decide))
   |(simp at h5;omega)
 cases hwl with
 |cons w1 w2=>
  cases w2
  cases w1 with
  |list ho hall=>exact⟨_,_,ns,rfl,rfl,ho,zb6 ns _ hall,hlen⟩
theorem zla(l:OpenLaw)(args:List WData):l.row.toRowW.claim.post args (.bool true) args=true :=
 postW_of (r:=l.row.toRowW) (X:=(true == true))
  (show WShape.has [] (.bool true) .bool=true by first|rfl|decide|simp[WShape.has,WShape.arms,WShape.armsAll])
  (show(WTm.eq .res (.lit (.bool true))).value [] { args:=args,res:=some (.bool true),after:=args }=some (.bool (true == true)) from w_eq_bool (w_res rfl) w_lit) rfl
theorem attach_call{l:OpenLaw}{n:Nat}{q:Program}{loose:List Str}{XP:(Str->Option Value)->Heap->Prop}{YP:World->Heap->Prop}{d:DefRec}
  (hn:l.most=some n) (hdf:d.params.defaults = [])
  (call:∀(w:World) (s₀ s₁:Shared) (mg mb:Str->Option Value) (fa:Addr) (o:Obj) (pm cd doc:Value) (a:Addr) (vs:List Value) (ns:List Int),
   Ground q loose [] XP w s₀ mg mb s₁.heap->YP w s₁.heap ->
   s₁.heap.get? fa=some o->o.data=.func (docDef d.name d.params d.body d.scope pm cd doc)->s₁.heap.CodeRec cd d.name->mg d.name=some (.ref fa) ->
   s₁.heap.get? a=some { cls:=.type "list",data:=.seq vs.toArray }->IntsAre vs ns->ns.length<=n->s₁.gens = #[] ->
   codeAny (model l.prog w) callerA (.call (.ref fa) ⟨[.ref a],[]⟩) (λr s'=>r=.ok (.ret (.bool true))/\OldK s₁.heap s'.heap/\s'.os=s₁.os/\AllBare s'.gens) s₁) :
  WalkO q loose XP YP l.row.toRowW d [] (λf vs=>PySem.call f vs):=by
 intro w s₀ s₁ mg mb G Y fa o pm cd doc dV kV ho hd hcd hD hmg hg args vals as hpre hlay hrd hwl hlo;obtain rfl:dV=.none:=Dflts.none hD hdf;obtain rfl:kV=.none:=Dflts.noKw hD;obtain⟨a,vs,ns,rfl,rfl,hobj,hints,hlen⟩:=zk9 hn hpre hwl;refine enter_call (codeAny_mono (call w s₀ s₁ mg mb fa o pm cd doc a vs ns G Y ho (fd_plain hd) hcd hmg hobj hints hlen hg) λr s' hq=>?_);obtain⟨rfl,h2,h3,h4⟩:=hq;exact⟨.inl ⟨.bool true,.bool true,[],rfl,λ_=>rfl,.bool true,zla l _,λ_=>⟨List.Pairwise.nil,λ_ hm=>(nomatch hm)⟩⟩,h2,h3,h4⟩
section
variable {prog:Program}{w:World}{A:Around}{E:Value->Shared->Prop}{s:Shared}{K:Frag}
end
end Att
namespace L2
open PySem PySem.Spec PyProof.Rows
theorem zem:∀{vs:List Value}{ns:List Int},IntsAre vs ns->Vals (ns.map V.int) vs
 |_,_,.nil=>.nil
 |_,_,.cons n t h=>.cons ⟨t,rfl⟩ (zem h)
def zi(s:Stmt):Arguments:=match s with
 |.FunctionDef _ a _ _ _ _ _ _ _ _=>a
 |_=>{ posonlyargs:=[],args:=[],vararg:=none,kwonlyargs:=[],kw_defaults:=[],kwarg:=none,defaults:=[] }
def zh(s:Stmt):List Stmt:=match s with
 |.FunctionDef _ _ b _ _ _ _ _ _ _=>b
 |_=>[]
def zc(s:Stmt):Scope:=match s with
 |.FunctionDef _ _ _ _ _ _ sc _ _ _=>sc
 |_=>{ kind:=.function,names:=[],isGenerator:=false,isCoroutine:=false }
abbrev CX0:CXT:=λ_ _ _ _ _ _=>False
abbrev E0:XK:=λ_ _ _=>False
theorem zqw{X:Cx}:zia CX0 X E0:=λ_ _ _ _ _ _ _ h=>h.elim
structure Fun(K:PySem.W.Frag)(x qual:Str)(st:Stmt)(f:Addr)(fd:FuncData):Prop where
 ex:∃(oc:Value) (od:Option Addr) (kV doc pm:Value) (an:Option Addr) (cdv ct:Value) (osl:Array (Option Value)),
  fd=PySem.W.fnOf x qual (zi st) (zh st) (zc st) .none kV doc pm an cdv ct/\K.lookup f=some ⟨oc,od,.func fd,osl⟩/\PySem.W.codeIn K cdv qual=true
 kp:PySem.W.keepIn K (.ref f)=true
section
variable {P:Program}{w:World}{K:PySem.W.Frag}{mg:Str->Option Value}{base:Heap}
theorem Fun.ok{x qual:Str}{st:Stmt}{f:Addr}{fd:FuncData}{N ps:List Str}{k:Nat}{sp:Sp}(F:Fun K x qual st f fd)(S:z0 N ps (zc st))(len:∀vs H Q E,sp vs H Q E->vs.length=ps.length)
  (hbody:∀(cdv:Value) (A:Around) (outer:List Env) (s:Shared) (H:Hp) (vs:List V) (Q:VK) (E:XK),Room k (A.deeper (envOfC qual (zc st) s.heap.objs.size f cdv))->sp vs H Q E ->
   ∃t,PSs (zb5 CX0 P w K mg base N qual (zc st) f cdv A outer s H E).nox (zh st) t/\t { nx:=λ_ H'=>Q .non H',rt:=Q } (start N vs) H):FnOk P w K mg base CX0 (k+1) f fd ps sp:=by
 obtain⟨oc,od,kV,doc,pm,an,cdv,ct,osl,rfl,lk,hcd⟩:=F.ex;refine zqu lk hcd S len λA outer s H vs Q E hr hsp=>?_;obtain⟨t,h,q⟩:=hbody cdv A outer s H vs Q E hr hsp;exact⟨t,h.nox,q⟩
theorem Fun.binds{x qual:Str}{st:Stmt}{f:Addr}{fd:FuncData}{ps:List Str}(F:Fun K x qual st f fd)
  (h:∀(kV doc pm:Value) (an:Option Addr) (cdv ct:Value) (us:List Value),us.length=ps.length->bindArgs (PySem.W.fnOf x qual (zi st) (zh st) (zc st) .none kV doc pm an cdv ct) ⟨us,[]⟩=pure (ps.zip us)):Binds K fd ps []:=by
 obtain⟨oc,od,kV,doc,pm,an,cdv,ct,osl,rfl,lk,hcd⟩:=F.ex;exact .all (h kV doc pm an cdv ct)
theorem yn{x qual:Str}{st:Stmt}{f:Addr}{oc:Value}{od an:Option Addr}{osl:Array (Option Value)}{kV doc pm cdv ct:Value}(l:K.lookup f=some ⟨oc,od,.func (PySem.W.fnOf x qual (zi st) (zh st) (zc st) .none kV doc pm an cdv ct),osl⟩)
  (c:PySem.W.codeIn K cdv qual=true) (k:PySem.W.keepIn K (.ref f)=true):Fun K x qual st f (PySem.W.fnOf x qual (zi st) (zh st) (zc st) .none kV doc pm an cdv ct):=⟨⟨oc,od,kV,doc,pm,an,cdv,ct,osl,rfl,l,c⟩,k⟩
end
section
variable {X:Cx}
theorem pv(i:Nat){x:Str}{pos:Pos}(hN:X.N[i]?=some x:=by rfl)(hv:Vis X.env.scope x:=by first|exact Or.inl rfl|exact Or.inr (Or.inl rfl)|exact Or.inr (Or.inr rfl))(hd:(x ==("__debug__" : Str))=false:=by decide)
  (hcd:(x ==("__classdict__" : Str))=false:=by decide):PE X (.Name x pos) (zug i):=kc hN hv hd hcd
end
theorem zwm{A B:Prop}(h:B):if false=true then A else B:=by
 rw[if_neg Bool.false_ne_true];exact h
theorem zu2{c A B:Prop}[Decidable c](h1:c->A)(h2:¬ c->B):if c then A else B:=by
 by_cases h:c
 ·rw[if_pos h];exact h1 h
 ·rw[if_neg h];exact h2 h
def Same(H H':Hp):Prop:=∀b o,H b=some o->H' b=some o
theorem Same.refl(H:Hp):Same H H:=λ_ _ h=>h
theorem Same.trans{H H1 H2:Hp}(a:Same H H1)(b:Same H1 H2):Same H H2:=λc o h=>b c o (a c o h)
theorem Same.free{H H':Hp}(e:Same H H'){l:Addr}(h:H' l=Option.none):H l=Option.none:=by
 cases q:H l with
 |none=>rfl
 |some o=>
  rw[e l o q]at h
  cases h
theorem Same.seq{K:PySem.W.Frag}{H H':Hp}{a:Addr}{xs:List V}(e:Same H H')(h:SqL K H a xs):SqL K H' a xs:=by
 rcases h with(h |⟨o,h⟩)|h
 ·exact .inl (.inl (e _ _ h))
 ·exact .inl (.inr ⟨o,e _ _ h⟩)
 ·exact .inr h
theorem zfc{prog:Program}{w:World}{A:Around}{R:Result->Shared->Prop}{s:Shared}{elt target iter:Expr}{ifs:List Expr}{scope:Scope}{pos:Pos}{it acc:Value}{env:Env}(I:Nat->Shared->Prop)
  (turn:∀n s,I n s->wpAny (model prog w) A (pyNext it) (λr s1=>match r with
   |none=>R (.ok .next) s1
   |some v=>wpAny (model prog w) A (letOwnedTupleGo target it v) (λ_ s1'=>wpAny (model prog w) A (assign target env v) (λ_ s2=>
     wpAny (model prog w) A (forIn ifs true λc r=>if r=true then do let ok <-isTrue c env (eval c env);pure (ForInStep.yield ok) else pure (ForInStep.yield r)) (λok s3=>
      if ok=true then wpAny (model prog w) A (eval elt env) (λx s4=>
       wpAny (model prog w) A (call (.builtin "list.append") [acc,x]) (λ_ s5=>∃m,m<n/\I m s5) (λ_ _=>False) s4) (λ_ _=>False) s3
      else ∃m,m<n/\I m s3) (λ_ _=>False) s2) (λ_ _=>False) s1') (λ_ _=>False) s1) (λ_ _=>False) s)
  (n:Nat) (h:I n s) :
  codeAny (model prog w) A (.compLoop (.ListComp elt [⟨target,iter,ifs,0⟩] scope pos) 0 it acc env) R s:=by
 refine codeAny_loop rfl I (λn s hI=>?_) n h;show wpAny _ A ((compTurn (.ListComp elt [⟨target,iter,ifs,0⟩] scope pos) 0 it acc env).onRaise (λx=>do noteFrame x env;theTreesLotGoes x)) _ _ s;refine wpAny_noted ?_;rw[compTurn_list];refine wpAny_bind (wpAny_standAt (wpAny_bind (wpAny_mono (turn n s hI) (λr s₁ h₁=>?_) λ_ _ h'=>h'.elim)))
 cases r with
 |none=>exact wpAny_pure h₁
 |some v=>
  refine wpAny_bind (wpAny_mono h₁ (λ_ s₁' h₁'=>?_) λ_ _ h'=>h'.elim);refine wpAny_bind (wpAny_mono h₁' (λ_ s₂ h₂=>wpAny_bind (wpAny_mono h₂ (λok s₃ h₃=>?_) λ_ _ h'=>h'.elim)) λ_ _ h'=>h'.elim)
  cases ok with
  |false=>exact wpAny_pure ⟨rfl,h₃⟩
  |true=>
   exact wpAny_bind (wpAny_bind (wpAny_mono h₃ (λx s₄ h₄=>wpAny_bind (wpAny_mono h₄ (λ_ s₅ h₅=>wpAny_pure (wpAny_pure ⟨rfl,h₅⟩)) λ_ _ h'=>h'.elim)) λ_ _ h'=>h'.elim))
inductive Capt(X:Cx)(scope:Scope)(cl:List (Str×Addr)):List Str->List Nat->Prop
 |nil:Capt X scope cl [] []
 |cons {x:Str}{j:Nat}{xs:List Str}{js:List Nat} (h1:X.N[j]?=some x) (h2:X.env.kindOf x=some .cell\/X.env.kindOf x=some .free) (h3:cl.lookup x=X.env.cells.lookup x)
  (h4:(relabel scope X.env).names.lookup x=some .cell\/(relabel scope X.env).names.lookup x=some .free) (t:Capt X scope cl xs js):Capt X scope cl (x::xs) (j::js)
theorem Capt.get{X:Cx}{scope:Scope}{cl:List (Str×Addr)}:∀{xs:List Str}{js:List Nat},Capt X scope cl xs js->xs.length=js.length/\∀(i:Nat) (x:Str) (j:Nat),xs[i]?=some x->js[i]?=some j->X.N[j]?=some x/\(X.env.kindOf x=some .cell\/X.env.kindOf x=some .free)/\cl.lookup x=X.env.cells.lookup x /\
  ((relabel scope X.env).names.lookup x=some .cell\/(relabel scope X.env).names.lookup x=some .free)
 |_,_,.nil=>⟨rfl,λi x j h=>by simp at h⟩
 |_,_,.cons h1 h2 h3 h4 t=>⟨by simp[t.get.1],λi x j hx hj=>by
  cases i with
  |zero=>simp at hx hj;subst hx hj;exact⟨h1,h2,h3,h4⟩
  |succ i=>exact t.get.2 i x j (by simpa using hx) (by simpa using hj)⟩
inductive SubC(X:Cx):List (Str×Addr)->Prop
 |nil:SubC X []
 |cons {x:Str}{c:Addr}{cl:List (Str×Addr)} (h:X.env.cells.lookup x=some c) (t:SubC X cl):SubC X ((x,c)::cl)
theorem SubC.of{X:Cx}:∀{cl:List (Str×Addr)},SubC X cl->∀x c,cl.lookup x=some c->X.env.cells.lookup x=some c
 |_,.nil,x,c,h=>by simp at h
 |_,.cons (x:=y) (c:=d) h0 t,x,c,h=>by
  rw[List.lookup_cons]at h
  cases e:x == y with
  |true=>
   rw[e]at h;have:x=y:=by simpa using e
   subst this;rw[h0];simpa using h
  |false=>rw[e]at h;exact t.of x c (by simpa using h)
def yj(X:Cx)(N':List Str)(scope:Scope)(cl:List (Str×Addr))(C:Addr)(fp:List Addr)(s2:Shared)(H2:Hp):Cx where
 prog:=X.prog
 w:=X.w
 K:=X.K
 mg:=X.mg
 base:=X.base
 A:=X.A
 N:=N'
 s₀:=s2
 H₀:=H2
 env:=compEnvC scope cl C X.env
 outer:=X.stack
 stack:=X.stack
 ex:=fp
 fn:=λ_=>false
 calm:=true
 pn:=[]
 xe:=λ_ _=>False
def y8(k:Nat)(js:List Nat)(σ:St):St:=List.replicate k none++js.map λj=>(σ[j]?).join
def PTs(X:Cx)(ifs:List Expr)(t:TT):Prop :=
 ∀(pins:List (Addr×Obj)) (s:Shared) (σ:St) (H:Hp) (Q:Bool->Hp->Prop),Inv X pins σ H s->t σ H Q ->
  wpAny (model X.prog X.w) X.A (forIn ifs true λc r=>if r=true then do let ok <-isTrue c X.env (eval c X.env);pure (ForInStep.yield ok) else pure (ForInStep.yield r)) (TP X pins σ Q) X.xe s
def zu3:TT:=λ_ H Q=>Q true H
theorem zo5{X:Cx}:PTs X [] zu3:=λ_ _ _ H _ I h=>wpAny_tests_nil ⟨H,I,h⟩
theorem zo6{X:Cx}{c:Expr}{t:TT}(hc:PT X c t):PTs X [c] t:=λpins s σ H Q I h=>wpAny_tests_one (hc pins s σ H Q I h)
def zfd(J:It)(D:Addr)(g:TG)(tt:TT)(te:TE)(σ0:St)(H1:Hp)(Q:VK):Prop :=
 ∃W:Nat->Nat->St->Hp->Prop,(∃m,W 0 m σ0 (upd H1 D (.lst [])))/\∀i m σ H,W i m σ H ->
  (J.stop i H/\Q (.ref D) H)\/(J.go i H/\∀x H',J.yld i H x H'->g x σ H' λσ2 H2=>tt σ2 H2 λb H3=>
   if b=true then te σ2 H3 λy H4=>∃ys,H4 D=some (.lst ys)/\ys.length<sizeLine/\∃m',m' < m/\W (i+1) m' σ2 (upd H4 D (.lst (ys ++ [y])))
   else ∃m',m' < m/\W (i+1) m' σ2 H3)
def tLC(k:Nat)(js:List Nat)(wi:TI)(g:TG)(tt:TT)(te:TE):TE:=λσ H Q=>wi σ H λJ H1=>∀D,H1 D=none->zfd J D g tt te (y8 k js σ) H1 Q
section
variable {X:Cx}
theorem zqx{N':List Str}{scope:Scope}{cl:List (Str×Addr)}{fp:List Addr}{pins:List (Addr×Obj)}{σ:St}{H2:Hp}{s2:Shared}{C:Addr}(I:Inv X pins σ H2 s2)(hc:X.calm=true)(hkind:scope.kind=.function)(hC:s2.heap.objs.size<=C)
  (hsub:SubC X cl) (hhas:(relabel scope X.env).names.all (λp=>(p.2 != .cell && p.2 != .free) ||(cl.lookup p.1).isSome)=true)
  (hf:∀b∈fp,FpOk X pins H2 b) (ho:∀b∈fp,∃o,s2.heap.get? b=some o/\∀v,o.data ≠ .cell v):(yj X N' scope cl C fp s2 H2).Ok where
 mod:=I.ok.mod
 kind:=hkind
 glob:=I.ok.glob
 blt:=I.ok.blt
 above:=hC
 inj:=λx y c h1 h2=>I.ok.inj x y c (hsub.of x c h1) (hsub.of y c h2)
 has:=λx hx=>by
  have hx:(relabel scope X.env).names.lookup x=some .cell\/(relabel scope X.env).names.lookup x=some .free:=hx;have key:∀k,(relabel scope X.env).names.lookup x=some k->(k=.cell\/k=.free)->∃c,cl.lookup x=some c:=λk hk hkk=>by
   have hm:=PySem.mem_of_lookup hk;have:=List.all_eq_true.mp hhas _ hm;rcases hkk with rfl|rfl <;> exact Option.isSome_iff_exists.mp (by simpa using this)
  rcases hx with hx|hx
  ·exact key _ hx (.inl rfl)
  ·exact key _ hx (.inr rfl)
 cab:=λx c h=>by cases h
 hd:=λ_=>I.ok.hd hc
 frames:=I.ok.frames
 stk:=.inl rfl
 exf:=λb hb=>by
  obtain⟨o,e,_⟩:=ho b hb;obtain⟨f0,f1,f2,f3,f4,f5⟩:=hf b hb;exact⟨Nat.ne_of_lt (Nat.lt_of_lt_of_le (Heap.lt_size e) hC),λx c h=>f4 x c (hsub.of x c h)⟩
 bs:=I.bs
 bsz:=Nat.le_trans I.ok.bsz I.sz
 noex:=λb o e hb=>by
  obtain⟨f0,f1,f2,f3,f4,f5⟩:=hf b hb;rcases f3 with z|z
  ·exact I.ok.noex b o e z
  ·exact absurd (Nat.lt_of_lt_of_le (Heap.lt_size e) (Nat.le_trans I.ok.bsz z)) (Nat.lt_irrefl _)
 exfs:=λb hb z=>by
  obtain⟨f0,f1,f2,f3,f4,f5⟩:=hf b hb;exact(List.mem_cons.mp (I.stkSub b z)).elim f1 f2
 funs:=I.stack
 frf:=I.stkFree
theorem zgt{N' capt:List Str}{k:Nat}{js:List Nat}{scope:Scope}{cl:List (Str×Addr)}{fp:List Addr}{pins:List (Addr×Obj)}{σ:St}{H2:Hp}{s2:Shared}{D C:Addr}{h4:Heap}{t4:Nat}{m:Str->Option Value}(I:Inv X pins σ H2 s2)(ok:(yj X N' scope cl C fp s2 H2).Ok)
  (hD:s2.heap.objs.size<=D) (hC:s2.heap.objs.size<=C) (hDC:D≠C) (keep:∀b o,s2.heap.get? b=some o->h4.get? b=some o) (hns:h4.Ns C m)
  (hl:h4.get? D=some { cls:=.type "list",data:=.seq #[] 0 })
  (hsub:SubC X cl) (hcap:Capt X scope cl capt js) (hN:N'=N'.take k++capt) (hk:k<=N'.length) :
  Inv (yj X N' scope cl C fp s2 H2) [] (y8 k js σ) (upd H2 D (.lst [])) { s2 with heap:=h4,toks:=t4 }:=by
 have below:∀b o,s2.heap.get? b=some o->b≠D/\b≠C:=λb o e=>⟨Nat.ne_of_lt (Nat.lt_of_lt_of_le (Heap.lt_size e) hD),Nat.ne_of_lt (Nat.lt_of_lt_of_le (Heap.lt_size e) hC)⟩
 have hlen:N'.length=k+capt.length:=by
  have:=congrArg List.length hN;rw[List.length_append,List.length_take]at this;omega
 refine⟨ok,rfl,I.bare,Un.laid keep hD (I.hok.fresh hD),⟨m,hns,λi x v h1 h2 h3=>?_⟩,λx c h=>?_,?_,λx c h=>?_,λp hp=>absurd (show p∈([]:List (Addr×Obj)) from hp) (by simp),?_,?_⟩
 ·have h1:N'[i]?=some x:=h1;unfold y8 at h2
  by_cases hi:i<k
  ·rw[List.getElem?_append_left (by simpa using hi),List.getElem?_replicate]at h2;rw[if_pos hi]at h2
   cases h2
  ·rw[List.getElem?_append_right (by simpa using hi),List.length_replicate,List.getElem?_map]at h2
   have hx:capt[i-k]?=some x:=by
    rw[hN,List.getElem?_append_right (by rw[List.length_take];omega),List.length_take]at h1;rw[show min k N'.length=k by omega]at h1;exact h1
   cases ej:js[i-k]? with
   |none=>rw[ej]at h2;cases h2
   |some j=>
    rw[ej]at h2;have h2':(σ[j]?).join=some v:=Option.some.inj h2;obtain⟨q1,q2,q3,q4⟩:=hcap.get.2 _ _ _ hx ej;have hv:σ[j]?=some (some v):=by
     cases e:σ[j]? with
     |none=>rw[e]at h2';cases h2'
     |some o=>rw[e]at h2';cases o with
      |none=>cases h2'
      |some v'=>simpa using h2'
    obtain⟨m0,hn0,hl0⟩:=I.loc;obtain⟨u,r,l⟩:=hl0 j x v q1 hv (by rcases q2 with z|z;exact .inr (.inl z);exact .inr (.inr z));refine⟨u,r,?_⟩;rcases l with⟨z,_⟩ |⟨_,c,e,o,z1,z2⟩
    ·rcases q2 with q|q <;> · rw[q]at z;cases z
    ·exact .inr ⟨q4,c,q3.trans e,o,keep c o z1,z2⟩
 ·obtain⟨v,o,z1,z2⟩:=I.cell x c (hsub.of x c h);exact⟨v,o,keep c o z1,z2⟩
 ·show upd H2 D (.lst []) C=none;rw[zw (Ne.symm hDC)];exact I.hok.fresh hC
 ·obtain⟨v,o,z1,z2⟩:=I.cell x c (hsub.of x c h);show upd H2 D (.lst []) c=none;rw[zw (below c o z1).1];exact I.freeC x c (hsub.of x c h)
 ·exact I.hok.laid keep hD ⟨Nat.zero_le _,[],0,.nil,hl⟩
 ·show(y8 k js σ).length=N'.length;unfold y8;rw[List.length_append,List.length_replicate,List.length_map,hlen,hcap.get.1]
structure zd6(X:Cx)(scope:Scope)(cl:List (Str×Addr))(N' capt:List Str)(k:Nat)(js:List Nat):Prop where
 clos:closureFor scope X.env=pure cl
 cell:∀y∈scope.names,y.2 ≠ .cell
 kind:scope.kind=.function
 names:∀y∈scope.names,y.2=.local->scope.names.lookup y.1=some .local
 sub:SubC X cl
 has:(relabel scope X.env).names.all (λp=>(p.2 != .cell && p.2 != .free) ||(cl.lookup p.1).isSome)=true
 cap:Capt X scope cl capt js
 hN:N'=N'.take k++capt
 hk:k<=N'.length
def LcEnd(X:Cx)(pins:List (Addr×Obj))(σ:St)(Q:VK)(acc:Value)(C:Addr)(r:Result)(s':Shared):Prop :=
 ∃(f:Flow) (D:Addr) (H':Hp) (m:Str->Option Value),r=.ok f/\acc=.ref D/\Inv X pins σ H' s'/\Q (.ref D) H'/\s'.heap.Ns C m/\H' C=none/\C≠X.env.locals/\X.s₀.heap.objs.size<=C/\(∀x c,X.env.cells.lookup x=some c->c≠C)/\∀p∈X.pn++pins,p.1≠C
theorem LcEnd.let_go{pins:List (Addr×Obj)}{σ':St}{H':Hp}{C:Addr}{s'':Shared}{h':Heap}(I:Inv X pins σ' H' s'')(hn:H' C=none)(h1:C≠X.env.locals)(h2:X.s₀.heap.objs.size<=C)(h3:∀x c,X.env.cells.lookup x=some c->c≠C)(h4:∀p∈X.pn++pins,p.1≠C)
  (hs:Heap.SameBut C s''.heap h'):Inv X pins σ' H' { s'' with heap:=h' } :=
 I.turned (t':=s''.toks) (λb o hb e=>(hs.2 b hb).trans e) hn h1 (.inr h2) h3 h4
theorem zgu{elt tg iter:Expr}{ifs:List Expr}{scope:Scope}{pos:Pos}{cl:List (Str×Addr)}{N' capt:List Str}{k:Nat}{js:List Nat}{g:TG}{tt:TT}{te:TE}{J:It}{fp:List Addr}{tn:Nat->Heap->Prop}{it:Addr}
  {pins:List (Addr×Obj)}{σ:St}{H2:Hp}{s2:Shared}{Q:VK}{E:Value->Shared->Prop} (hc:X.calm=true) (L:zd6 X scope cl N' capt k js)
  (hg:∀C fp s2 H2,PG (yj X N' scope cl C fp s2 H2) tg g) (ht:∀C fp s2 H2,PTs (yj X N' scope cl C fp s2 H2) ifs tt) (he:∀C fp s2 H2,PE (yj X N' scope cl C fp s2 H2) elt te)
  (I2:Inv X pins σ H2 s2) (T:ze7 X.prog X.w X.K tg J fp it tn) (st2:tn 0 s2.heap) (f2:∀b∈fp,FpOk X pins H2 b) (q:∀D,H2 D=none->zfd J D g tt te (y8 k js σ) H2 Q) :
  wpAny (model X.prog X.w) X.A (newList []) (λacc s3=>wpAny (model X.prog X.w) X.A (newFunctionEnv scope X.env.globals cl [] X.env.qual none .none (some X.env)) (λcenv s4=>
   codeAny (model X.prog X.w) X.A (.compStart (.ListComp elt [⟨tg,iter,ifs,0⟩] scope pos) 0 (.ref it) acc { cenv with scope:=relabel scope X.env }) (LcEnd X pins σ Q acc cenv.locals) s4) E s3) E s2:=by
 refine wpAny_newObj_type (wpAny_newFunctionEnv L.cell (by intro y hy;simp at hy) (λh₁ hns₁ hsb₁=>?_) L.kind);dsimp only at hns₁ hsb₁ ⊢;generalize hH2:s2.heap.push { cls:=.type "list",dict:=none,data:=.seq ([]:List Value).toArray }=G at hns₁ hsb₁ ⊢;have hC:G.objs.size=s2.heap.objs.size+1:=by rw[<-hH2,Heap.size_push]
 have hDC:s2.heap.objs.size≠G.objs.size:=by rw[hC];exact Nat.ne_of_lt (Nat.lt_succ_self _)
 have hCle:s2.heap.objs.size<=G.objs.size:=by rw[hC];exact Nat.le_succ _
 have below:∀b,b<s2.heap.objs.size->b≠G.objs.size:=λb hb=>by rw[hC];exact Nat.ne_of_lt (Nat.lt_succ_of_lt hb)
 have keep:∀b o,s2.heap.get? b=some o->h₁.get? b=some o:=λb o e=>hsb₁.extBut b o (below b (Heap.lt_size e)) (Heap.get?_push_of_some _ (hH2 ▸ Heap.get?_push_of_some _ e));have hl:h₁.get? s2.heap.objs.size=some { cls:=.type "list",data:=.seq #[] 0 }:=hsb₁.extBut _ _ hDC (Heap.get?_push_of_some _ (hH2 ▸ Heap.get?_push_size _ rfl));have ho2:=T.obj _ _ st2;have ok:(yj X N' scope cl G.objs.size fp s2 H2).Ok:=zqx I2 hc L.kind hCle L.sub L.has f2 ho2;generalize hD:s2.heap.objs.size=D at hl hDC ⊢;generalize hCC:G.objs.size=C at hns₁ hsb₁ hDC hC hCle below ok ⊢;have hDle:s2.heap.objs.size<=D:=by rw[hD];exact Nat.le_refl _
 have I4:Inv (yj X N' scope cl C fp s2 H2) [] (y8 k js σ) (upd H2 D (.lst [])) { s2 with heap:=h₁,toks:=s2.toks+([]:List (Str×Value)).length } :=
  zgt I2 ok hDle hCle hDC keep hns₁ hl L.sub L.cap L.hN L.hk
 obtain⟨W,⟨m0,w0⟩,turn⟩:=q D (I2.hok.fresh hDle);have tn0:tn 0 h₁:=T.keep _ _ _ st2 λb _ o e=>keep b o e;have fr0:∀b∈fp,upd H2 D (.lst []) b=none:=λb hb=>by
  obtain⟨o,e,_⟩:=ho2 b hb;rw[zw (Nat.ne_of_lt (Nat.lt_of_lt_of_le (Heap.lt_size e) hDle))];exact(f2 b hb).1
 have stat:∀{H':Hp},(∀b∈fp,H' b=none)->∀b∈fp,FpOk (yj X N' scope cl C fp s2 H2) [] H' b:=λhn b hb=>by
  refine⟨hn b hb,(ok.exf b hb).1,ok.exfs b hb,.inl hb,(ok.exf b hb).2,λp hp=>absurd (show p∈([]:List (Addr×Obj)) from hp) (by simp)⟩
 have loop:∀s₃:Shared,s₃ = { s2 with heap:=h₁,toks:=s2.toks+([]:List (Str×Value)).length } ->
   codeAny (model X.prog X.w) X.A (.compLoop (.ListComp elt [⟨tg,iter,ifs,0⟩] scope pos) 0 (.ref it) (.ref D) (compEnvC scope cl C X.env)) (LcEnd X pins σ Q (.ref D) C) s₃:=by
  rintro s₃ rfl;refine zfc (λn s'=>∃i σ' H',Inv (yj X N' scope cl C fp s2 H2) [] σ' H' s'/\tn i s'.heap/\(∀b∈fp,H' b=none)/\W i n σ' H') ?_ m0 ⟨0,_,_,I4,tn0,fr0,w0⟩;rintro n s3 ⟨i,σ3,H3,I3,st3,fr3,w3⟩;rcases turn i n σ3 H3 w3 with⟨stop,qn⟩ |⟨go,step⟩
  ·refine thn (T.done (yj X N' scope cl C fp s2 H2) rfl rfl rfl rfl i [] s3 σ3 H3 (λ_ _=>False) I3 (stat fr3) st3 stop) λr s4 ⟨hr,J4⟩=>?_;subst hr;obtain⟨m,hn,_⟩:=id J4.loc;have hs:X.s₀.heap.objs.size<=C:=Nat.le_trans I2.sz hCle;refine⟨.next,D,H3,m,rfl,rfl,I2.call' (ch:=fp) J4.os J4.base J4.hok J4.bare (λb hb=>?_),qn,hn,J4.free,λz=>?_,hs,λx c h z=>?_,λp hp z=>?_⟩
   ·obtain⟨f0,f1,f2',f3,f4,f5⟩:=f2 b hb;exact⟨f3,f1,f4,f5⟩
   ·have:=I2.lt;rw[<-z]at this;exact absurd (Nat.lt_of_lt_of_le this hCle) (Nat.lt_irrefl _)
   ·obtain⟨v,o,z1,_⟩:=I2.cell x c h;have:=Heap.lt_size z1;rw[z]at this;exact absurd (Nat.lt_of_lt_of_le this hCle) (Nat.lt_irrefl _)
   ·have:=Heap.lt_size (I2.pin p hp).1;rw[z]at this;exact absurd (Nat.lt_of_lt_of_le this hCle) (Nat.lt_irrefl _)
  ·refine thn (T.item (yj X N' scope cl C fp s2 H2) rfl rfl rfl rfl i [] s3 σ3 H3 (λ_ _=>False) I3 (stat fr3) st3 go) λr s4 ⟨u,hr,h4⟩=>?_;subst hr;refine thn h4 λ_ s5 ⟨x,H5,I5,r5,y5,st5,fr5⟩=>?_;have I5':=I5.pinned (stat fr5) (T.obj _ _ st5);refine thn (hg C fp s2 H2 _ s5 σ3 H5 x u _ I5' r5 (step x H5 y5)) λ_ s6 ⟨σ6,H6,I6,q6⟩=>?_;refine thn (ht C fp s2 H2 _ s6 σ6 H6 _ I6 q6) λok s7 ⟨H7,I7,q7⟩=>?_
   have again:∀{H8:Hp}{s8:Shared},Inv (yj X N' scope cl C fp s2 H2) ([]++j1 fp s5.heap) σ6 H8 s8->(∃m',m' < n/\W (i+1) m' σ6 H8)->∃m,m<n/\∃i σ' H',Inv (yj X N' scope cl C fp s2 H2) [] σ' H' s8/\tn i s8.heap/\(∀b∈fp,H' b=none)/\W i m σ' H':=λ{H8 s8} I8 n8=>by
    obtain⟨m',hm,w8⟩:=n8;refine⟨m',hm,i+1,σ6,H8,I8.unpinned,T.keep _ _ _ st5 λb hb o e=>(I8.pin (b,o) (List.mem_append_right _ (List.mem_append_right _ (x9 hb e)))).1,λb hb=>?_,w8⟩;obtain⟨o,e,d⟩:=T.obj _ _ st5 b hb;exact(I8.pin (b,o) (List.mem_append_right _ (List.mem_append_right _ (x9 hb e)))).2.1
   cases ok with
   |false=>
    rw[if_neg Bool.false_ne_true]at q7;exact again I7 q7
   |true=>
    rw[if_pos rfl]at q7;refine thn (he C fp s2 H2 _ s7 σ6 H7 _ I7 q7) λy s8 ⟨v8,H8,I8,r8,q8⟩=>?_;obtain⟨ys,e8,z8,w8⟩:=q8;refine thn (zba (X:=yj X N' scope cl C fp s2 H2) _ s8 σ6 H8 (.ref D) [v8] (.ref D) [y] (λv H=>∃m',m' < n/\W (i+1) m' σ6 H) I8 rfl (.cons r8 .nil) ⟨D,ys,v8,rfl,rfl,e8,z8,w8⟩) λ_ s9 ⟨v9,H9,I9,_,w9⟩=>?_;exact again I9 w9
 exact codeAny_compStart_list (loop _ rfl) (T.self _ 0 _ _ _ tn0 (loop _ rfl))
theorem zu4{elt tg iter:Expr}{ifs:List Expr}{scope:Scope}{pos:Pos}{cl:List (Str×Addr)}{N' capt:List Str}{k:Nat}{js:List Nat}{wi:TI}{g:TG}{tt:TT}{te:TE}(hc:X.calm=true)(L:zd6 X scope cl N' capt k js)
  (hi:PI X tg iter wi) (hg:∀C fp s2 H2,PG (yj X N' scope cl C fp s2 H2) tg g) (ht:∀C fp s2 H2,PTs (yj X N' scope cl C fp s2 H2) ifs tt) (he:∀C fp s2 H2,PE (yj X N' scope cl C fp s2 H2) elt te)
  (hs:∀x,foldedSetIterable iter X.env x=pure x:=by intro _;rfl):PE X (.ListComp elt [⟨tg,iter,ifs,0⟩] scope pos) (tLC k js wi g tt te):=by
 intro pins s σ H Q I h;rw[eval_ListComp];refine wpAny_comprehension_free (use:=none) rfl hs L.clos L.kind L.names (thn (hi pins s σ H _ I h) λv s1 h1=>thn h1 λitv s2 h2=>?_);obtain⟨it,fp,tn,J,H2,e,I2,T,st2,f2,q⟩:=h2;subst e;refine thn (zgu (E:=X.xe) hc L hg ht he I2 T st2 f2 q) λacc s3 h3=>thn h3 λcenv s4 h4=>codeAny_mono h4 λr s' hr=>?_;obtain⟨f,D,H',m,rfl,rfl,J',qq,hn,b1,b2,b3,b4,b5⟩:=hr;exact⟨m,hn,λh' hsb=>⟨.ref D,H',LcEnd.let_go J' b1 b2 b3 b4 b5 hsb,rfl,qq⟩⟩
theorem zmk{i:Nat}{x:Str}{elt tg iter:Expr}{ifs:List Expr}{scope:Scope}{pos pos' spos:Pos}{cl:List (Str×Addr)}{N' capt:List Str}{k:Nat}{js:List Nat}{wi:TI}{g:TG}{tt:TT}{te:TE}(hN:X.N.Nodup)(hi':X.N[i]?=some x)(hx:Loc X.env.scope x)(hc:X.calm=true)(L:zd6 X scope cl N' capt k js)
  (hi:PI X tg iter wi) (hg:∀C fp s2 H2,PG (yj X N' scope cl C fp s2 H2) tg g) (ht:∀C fp s2 H2,PTs (yj X N' scope cl C fp s2 H2) ifs tt) (he:∀C fp s2 H2,PE (yj X N' scope cl C fp s2 H2) elt te)
  (hsw:swapsWith (.ListComp elt [⟨tg,iter,ifs,0⟩] scope pos) (some (.Name x pos')) spos.line X.env=pure true:=by rfl)
  (hs:∀x,foldedSetIterable iter X.env x=pure x:=by intro _;rfl) (hf:X.fn x=true\/X.env.scope.names.lookup x=some .local:=by first|exact .inl rfl|exact .inr rfl|assumption):PS X (.Assign [.Name x pos'] (.ListComp elt [⟨tg,iter,ifs,0⟩] scope pos) spos) (zow (tLC k js wi g tt te) (zma i)):=by
 intro pins s σ H D I h;have h:tLC k js wi g tt te σ H (λv H1=>D.nx (σ.set i (some v)) H1):=h;rw[exec_Assign_Name_used _ _ _ _ hsw];refine wpAny_bind (wpAny_standAt (wpAny_bind ?_));show wpAny _ X.A (do let _ <-comprehension (.ListComp elt [⟨tg,iter,ifs,0⟩] scope pos) scope X.env _ (newList []) false (eval iter X.env) (some (assign (.Name x pos') X.env))) _ _ s;refine wpAny_bind (wpAny_mono (wpAny_comprehension_free (use:=some (assign (.Name x pos') X.env)) (Q:=λ_ s'=>SP X pins D .next s') rfl hs L.clos L.kind L.names
  (thn (hi pins s σ H _ I h) λv s1 h1=>thn h1 λitv s2 h2=>?_)) (λ_ s' hq=>wpAny_pure (wpAny_pure hq)) λ_ _ e=>e)
 obtain⟨it,fp,tn,J,H2,e,I2,T,st2,f2,q⟩:=h2;subst e;refine thn (zgu (E:=X.xe) hc L hg ht he I2 T st2 f2 q) λacc s3 h3=>thn h3 λcenv s4 h4=>codeAny_mono h4 λr s' hr=>?_;obtain⟨f,D',H',m,rfl,rfl,J',qq,hn,b1,b2,b3,b4,b5⟩:=hr;show wpAny _ X.A (assign (.Name x pos') X.env (.ref D')) _ _ _;refine wpAny_assign_Name (za9 (v:=.ref D') J' hN hi' hx rfl (λs'' J'' hsb=>?_) hf);obtain⟨a,hsb,ha⟩:=hsb;have hne:cenv.locals≠a:=by
  rcases ha with z|z
  ·rw[z];exact b2
  ·exact λz'=>b4 x a z z'.symm
 exact⟨m,hn.sameBut hsb hne,λh' hs'=>⟨_,H',LcEnd.let_go J'' b1 b2 b3 b4 b5 hs',qq⟩⟩
end
section
variable {X:Cx}{pins:List (Addr×Obj)}{σ:St}{H:Hp}{s:Shared}
theorem Inv.turnedNew{ch:List Addr}{p:Addr}{o:HO}{h':Heap}{t':Nat}(I:Inv X pins σ H s)(hch:∀b∈ch,FpOk X pins H b)(hp:s.heap.objs.size<=p)
  (k:∀b u,b∉ch->s.heap.get? b=some u->h'.get? b=some u) (new:ObjOk X.prog X.w (upd H p o) h' p o):Inv X pins σ (upd H p o) { s with heap:=h',toks:=t' }:=by
 have hn:=I.hok.fresh hp;have nch:∀b u,H b=some u->b∉ch:=λb u e z=>by rw[(hch b z).1]at e;cases e
 refine I.step (g':=s.gens) (d':=s.drawn) (ch:=ch) (λb hb=>?_) (λb u _ _ hc e _=>k b u hc e) (λb u _ _ hc e _=>⟨u.slots,k b u hc e⟩) (λb u hc e n=>?_) (λb u hc e=>⟨u,k b u hc e⟩)
  (λb xs e=>by rw[zw (yi e hn)];exact e) (λb u xs e=>by rw[zw (yi e hn)];exact e) (λb ps e=>⟨#[],by rw[zw (yi e hn),e];simp⟩) (λm hm=>?_) (λb u e=>?_) I.bare
 ·obtain⟨f0,f1,f2,f3,f4,f5⟩:=hch b hb;exact⟨f3,f1,f4,f5⟩
 ·rw[zw (Nat.ne_of_lt (Nat.lt_of_lt_of_le (Heap.lt_size e) hp))];exact n
 ·obtain⟨o',es,ep,ho,r⟩:=hm;exact⟨o',es,ep,k _ o' (λz=>(hch _ z).2.1 rfl) ho,r⟩
 ·by_cases hb:b=p
  ·subst hb;rw[zx]at e
   cases e;exact new
  ·rw[zw hb]at e;refine(I.hok b u e).stay (λc v hc q=>k c v ?_ q) (λc q=>by rw[zw (yi q hn)];exact q) (λc xs q=>by rw[zw (yi q hn)];exact q) (λc _ _ q=>by rw[zw (yi q hn)];exact q);rcases hc with z|z
   ·rw[z];exact nch b u e
   ·exact nch c _ z
theorem Inv.turnedL{ch:List Addr}{h':Heap}{t':Nat}(I:Inv X pins σ H s)(hch:∀b∈ch,FpOk X pins H b)
  (k:∀b u,b∉ch->s.heap.get? b=some u->h'.get? b=some u):Inv X pins σ H { s with heap:=h',toks:=t' }:=by
 have nch:∀b u,H b=some u->b∉ch:=λb u e z=>by rw[(hch b z).1]at e;cases e
 refine I.step (g':=s.gens) (d':=s.drawn) (ch:=ch) (λb hb=>?_) (λb u _ _ hc e _=>k b u hc e) (λb u _ _ hc e _=>⟨u.slots,k b u hc e⟩) (λb u hc e n=>n) (λb u hc e=>⟨u,k b u hc e⟩)
  (λb xs e=>e) (λb u xs e=>e) (λb ps e=>⟨#[],by rw[e];simp⟩) (λm hm=>?_) (λb u e=>?_) I.bare
 ·obtain⟨f0,f1,f2,f3,f4,f5⟩:=hch b hb;exact⟨f3,f1,f4,f5⟩
 ·obtain⟨o',es,ep,ho,r⟩:=hm;exact⟨o',es,ep,k _ o' (λz=>(hch _ z).2.1 rfl) ho,r⟩
 ·refine(I.hok b u e).stay (λc v hc q=>k c v ?_ q) (λc q=>q) λc xs q=>q;rcases hc with z|z
  ·rw[z];exact nch b u e
  ·exact nch c _ z
end
section
variable {X:Cx}
theorem zml{X:Cx}(hc:X.calm=true):wz X (.builtin "sum") (λxs H Q=>∃(p:Addr) (ns:List Int),xs = [.ref p]/\SqL X.K H p (ns.map V.int)/\Q (.int ns.sum) H):=by
 intro pins s σ H xs us Q I rv h;obtain⟨p,ns,rfl,hq,q⟩:=h;obtain⟨u,rfl,r1⟩:=rv.one
 cases r1;obtain⟨its,rvs,pl,hz⟩:=I.list hq;have hi:=wx rvs;obtain⟨xs,hxs⟩:=hi.allInts.items;have hl:=pl.isList;have hns:ns=numsOf its:=(hi.numsOf).symm;have hx2:its.toArray.toList=its:=rfl;rw[hxs]at hl;refine sum_intListG (I.ok.hd hc) hl λh' tk t' hk=>⟨.int ns.sum,H,I.kept hk,⟨t',?_⟩,q⟩
 rw[preSum_eq,List.take_of_length_le (by simp)];have:numsOf its=numsOf (intItems xs).toList:=by rw[<-hxs]
 rw[hns,this,nums_intItems]
theorem zlb{bs:List Bool}{its:List Value}(r:Vals (bs.map V.bl) its):(List.range its.toArray.size).all (λi=>bs.getD i true)=bs.all id:=by
 have hl:its.toArray.size=bs.length:=by have:=r.length;simp at this ⊢;omega
 rw[hl];clear hl r;apply Bool.eq_iff_iff.mpr;simp only[List.all_eq_true,List.mem_range,id];constructor
 ·intro h b hb;obtain⟨i,hi,e⟩:=List.getElem_of_mem hb;have:=h i hi;simp[List.getD,hi,e]at this;exact this
 ·intro h i hi;simp only[List.getD,List.getElem?_eq_getElem hi,Option.getD_some];exact h _ (List.getElem_mem hi)
theorem zlc{bs:List Bool}{its:List Value}(r:Vals (bs.map V.bl) its):(List.range its.toArray.size).any (λi=>bs.getD i true)=bs.any id:=by
 have hl:its.toArray.size=bs.length:=by have:=r.length;simp at this ⊢;omega
 rw[hl];clear hl r;apply Bool.eq_iff_iff.mpr;simp only[List.any_eq_true,List.mem_range,id];constructor
 ·rintro ⟨i,hi,h⟩;simp only[List.getD,List.getElem?_eq_getElem hi,Option.getD_some]at h;exact⟨_,List.getElem_mem hi,h⟩
 ·rintro ⟨b,hb,h⟩;obtain⟨i,hi,e⟩:=List.getElem_of_mem hb;exact⟨i,hi,by simp only[List.getD,List.getElem?_eq_getElem hi,Option.getD_some,e];exact h⟩
theorem zgv{bs:List Bool}{its:List Value}(r:Vals (bs.map V.bl) its)(i:Nat)(v:Value)(h:its.toArray[i]?=some v):v=.bool (bs.getD i true):=by
 have h':its[i]?=some v:=by simpa using h
 have hi:i<its.length:=(List.getElem?_eq_some_iff.mp h').1;have hb:i<bs.length:=by have:=r.length;simp at this;omega
 obtain⟨u,hu,ru⟩:=r.get (i:=i) (x:=.bl bs[i]) (by simp[hb]);rw[h']at hu
 cases hu;have ru:v=.bool bs[i]:=ru;rw[ru];simp[List.getD,hb]
theorem zen{A:Around}{E:Value->Shared->Prop}{s:Shared}{l:Addr}{its:Array Value}{Q:Value->Shared->Prop}{prog:Program}{w:World}(hl:s.heap.IsList l its)
  (h:∀s2:Shared,s2 = { s with heap:=s.heap.push { cls:=.type "list_iterator",data:=.fields #[.ref l,.int 0 0] } } ->
   (s2.heap.IsListIter s.heap.objs.size l 0/\s2.heap.IsList l its)->l≠s.heap.objs.size->Q (.ref s.heap.objs.size) s2) :
  wpAny (model prog w) A (pyIter (.ref l)) Q E s:=by
 have hlt:l<s.heap.objs.size:=by obtain⟨_,e,_⟩:=hl;exact Heap.lt_size e
 exact wpAny_pyIter_list hl (h _ rfl ⟨⟨_,Heap.get?_push_size _ rfl,rfl,rfl⟩,hl.push _⟩ (Nat.ne_of_lt hlt))
theorem zmm(hc:X.calm=true):wz X (.builtin "all") (λxs H Q=>∃(p:Addr) (bs:List Bool),xs = [.ref p]/\SqL X.K H p (bs.map V.bl)/\Q (.bl (bs.all id)) H):=by
 intro pins s σ H xs us Q I rv h;obtain⟨p,bs,rfl,hq,q⟩:=h;obtain⟨u,rfl,r1⟩:=rv.one
 cases r1;obtain⟨its,rvs,pl,hz⟩:=I.list hq;refine call_all_walk (zen pl.isList λs2 e st hne=>?_);subst e;refine⟨_,_,_,_,_,_,λi=>bs.getD i true,rfl,Walks.list (A:=X.A.in1) (I.ok.hd hc) _ p hne its.toArray,st,λi v s Q E hP hQ=>?_,λh' tk hk=>?_⟩
 ·rw[zgv rvs i v hP];exact wpAny_truthy_bool hQ
 ·rw[zlb rvs];refine⟨.bl (bs.all id),H,I.kept (λb o e=>hk b o (λz=>?_) (Heap.get?_push_of_some _ e)),rfl,q⟩;rw[List.mem_singleton.mp z]at e;exact Nat.lt_irrefl _ (Heap.lt_size e)
theorem zmn(hc:X.calm=true):wz X (.builtin "any") (λxs H Q=>∃(p:Addr) (bs:List Bool),xs = [.ref p]/\SqL X.K H p (bs.map V.bl)/\Q (.bl (bs.any id)) H):=by
 intro pins s σ H xs us Q I rv h;obtain⟨p,bs,rfl,hq,q⟩:=h;obtain⟨u,rfl,r1⟩:=rv.one
 cases r1;obtain⟨its,rvs,pl,hz⟩:=I.list hq;refine call_any_walk (zen pl.isList λs2 e st hne=>?_);subst e;refine⟨_,_,_,_,_,_,λi=>bs.getD i true,rfl,Walks.list (A:=X.A.in1) (I.ok.hd hc) _ p hne its.toArray,st,λi v s Q E hP hQ=>?_,λh' tk hk=>?_⟩
 ·rw[zgv rvs i v hP];exact wpAny_truthy_bool hQ
 ·rw[zlc rvs];refine⟨.bl (bs.any id),H,I.kept (λb o e=>hk b o (λz=>?_) (Heap.get?_push_of_some _ e)),rfl,q⟩;rw[List.mem_singleton.mp z]at e;exact Nat.lt_irrefl _ (Heap.lt_size e)
def zqy(i j:Int):Prop:=0<j/\j<10000000000000000000000000000000000000000000000000000000000000
theorem zcu:OpR X (binaryOp .FloorDiv) (rI zqy λi j=>.int (i / j)):=opI λi j _ _ _ _ _ hc q=>by
 have h0:j≠0:=by have:=hc.1;omega
 have e:i.fdiv j=i / j:=Int.fdiv_eq_ediv_of_nonneg i (by have:=hc.1;omega);refine floordiv_int h0 (by rw[e];exact q) (.inl (PyProof.noPylong_of_log2 ?_));have h1:j.natAbs<2 ^ 400:=Nat.lt_of_lt_of_le (show j.natAbs<10000000000000000000000000000000000000000000000000000000000000 by have h1:=hc.1;have h2:=hc.2;omega) (by decide +kernel);have h2:j.natAbs≠0:=by omega
 exact Nat.lt_of_lt_of_le ((Nat.log2_lt h2).mpr h1) (by decide)
end
def yd(P:Program)(w:World)(K:PySem.W.Frag)(mg:Str->Option Value)(base:Heap)(k:Nat)(x:Str)(ps:List Str)(sp:Sp):Prop :=
 ∃f fd,FnOk P w K mg base CX0 k f fd ps sp/\Binds K fd ps []/\PySem.W.keepIn K (.ref f)=true/\mg x=some (.ref f)
theorem zcv{X:Cx}{k k':Nat}{x:Str}{ps:List Str}{sp:Sp}{e:Expr}{es:List Expr}{t:TA}{p pos:Pos}(C:yd X.prog X.w X.K X.mg X.base k x ps sp)(hr:Room k' X.A)(hg:Gl X x)(ha:PA X (e::es) t)(hk:k<=k':=by decide)
  (hdb:(x ==("__debug__" : Str))=false:=by decide) (he:starEach (e::es) X.env=(false,eval e X.env)::starEach es X.env:=by rfl) (hpl:(backTo pos (starEach es X.env)).any (·.1)=false:=by rfl) :
  PE X (.Call (.Name x p) (e::es) [] pos) (zmg sp [] E0 t):=by
 intro pins s σ H Q I h;obtain⟨f,fd,F,b,kp,m⟩:=C;exact zoz F (hr.mono hk) hg m kp b .nil zqw ha hdb he hpl pins s σ H Q I h
def But(p:Addr)(H H':Hp):Prop:=∀b o,b≠p->H b=some o->H' b=some o
theorem But.refl(p:Addr)(H:Hp):But p H H:=λ_ _ _ h=>h
theorem But.trans{p:Addr}{H H1 H2:Hp}(a:But p H H1)(b:But p H1 H2):But p H H2:=λc o n h=>b c o n (a c o n h)
theorem But.of_same{p:Addr}{H H':Hp}(h:Same H H'):But p H H':=λb o _ q=>h b o q
theorem But.write{p:Addr}{H:Hp}{o:HO}:But p H (upd H p o):=λb u n q=>by rw[zw n];exact q
theorem Same.but{p:Addr}{H H1 H2:Hp}(a:Same H H1)(hp:H p=none)(b:But p H1 H2):Same H H2:=λc o h=>b c o (yi h hp) (a c o h)
theorem yk{H:Hp}{p:Addr}(h:H p=none)(o:HO):Same H (upd H p o):=λb u q=>by rw[zw (yi q h)];exact q
def Pen(H:Hp)(p:Addr):Prop:=∃a b c:Int,H p=some (.lst [.int a,.int b,.int c])
theorem zu5{n:Nat}(h:n<=10000):n<sizeLine:=Nat.lt_of_le_of_lt h (by decide)
theorem zsh{α:Type}{xs:List α}{k:Int}(h0:0<=k)(h1:k<xs.length):∃v,atI xs k=some v/\xs[k.toNat]?=some v:=by
 have hk:k.toNat<xs.length:=by omega
 have ek:k=((k.toNat:Nat):Int):=by omega
 have q:atI xs ((k.toNat:Nat):Int)=some xs[k.toNat]:=zci (List.getElem?_eq_getElem hk);rw[<-ek]at q;exact⟨_,q,List.getElem?_eq_getElem hk⟩
theorem Pen.ne{H:Hp}{p l:Addr}(h:Pen H p)(hl:H l=none):l≠p:=λe=>by
 obtain⟨a,b,c,q⟩:=h;rw[e]at hl;rw[hl]at q
 cases q
def NextLC(n i:Nat)(D:Addr)(Wv:Nat->St->Hp->Prop)(σ2:St)(y:V)(H4:Hp):Prop :=
 ∃ys,H4 D=some (.lst ys)/\ys.length<sizeLine/\∃m',m' < n-i/\(m'=n-(i+1)/\i+1<=n/\Wv (i+1) σ2 (upd H4 D (.lst (ys ++ [y]))))
def SkipLC(n i:Nat)(Wv:Nat->St->Hp->Prop)(σ2:St)(H3:Hp):Prop:=∃m',m' < n-i/\(m'=n-(i+1)/\i+1<=n/\Wv (i+1) σ2 H3)
theorem NextLC.mk{n i:Nat}{D:Addr}{Wv:Nat->St->Hp->Prop}{σ2:St}{y:V}{H4:Hp}(hi:i<n){ys:List V}(e:H4 D=some (.lst ys))(z:ys.length<=10000)(w:Wv (i+1) σ2 (upd H4 D (.lst (ys ++ [y])))):NextLC n i D Wv σ2 y H4 :=
 ⟨ys,e,zu5 z,n-(i+1),by omega,rfl,hi,w⟩
theorem SkipLC.mk{n i:Nat}{Wv:Nat->St->Hp->Prop}{σ2:St}{H3:Hp}(hi:i<n)(w:Wv (i+1) σ2 H3):SkipLC n i Wv σ2 H3:=⟨n-(i+1),by omega,rfl,hi,w⟩
section
variable {prog:Program}{w:World}{A:Around}{E:Value->Shared->Prop}{s:Shared}
theorem zie{it t:Addr}{i:Nat}{xs:Array Value}{x:Value}{Q:Value->Shared->Prop}(hi:s.heap.IsTupleIter it t i)(ht:s.heap.IsTuple t xs)(hx:xs[i]?=some x)
  (q:∀h',h'.IsTupleIter it t (i+1)->Heap.SameBut it s.heap h'->Q x { s with heap:=h' }):wpAny (model prog w) A (Builtin.SmallTypes.nextOf (.ref it)) Q E s:=by
 obtain⟨oi,e1,c1,d1⟩:=id hi;obtain⟨ot,e2,c2,n2,d2⟩:=id ht;unfold Builtin.SmallTypes.nextOf;refine wpAny_bind (wpAny_callSpecial?_slot (name:=Str.ofString "__next__") hi.typeIs F.slot_tuple_iterator_next (wpAny_call_entry F.slot_tuple_iterator_next hi.typeIs F.entry_tuple_iterator_next (show wpAny _ _ (field (.ref it) 0 >>= _) _ _ s from wpAny_bind (wpAny_field e1 d1 (x:=.ref t) rfl ?_)) (F.args_tuple_iterator_next_1 _)));show wpAny _ _ (if (Value.ref t == Value.none)=true then _ else _) _ _ s;rw[if_neg (λz:(Value.ref t == Value.none)=true=>Bool.false_ne_true z)];refine(show wpAny _ _ (field (.ref it) 1 >>= _) _ _ s from wpAny_bind (wpAny_field e1 d1 (x:=.int i 0) rfl (show wpAny _ _ (seqItems? (.ref t) >>= _) _ _ s from wpAny_bind (wpAny_seqItems e2 d2 ?_))));simp only[hx,Int.toNat_natCast];refine wpAny_bind (wpAny_setField e1 d1 (by simp) (wpAny_pure ⟨x,rfl,wpAny_pure (q _ ⟨_,Heap.get?_update_self _ e1 (Obj.isFreed_of_fields (Obj.data_mapFields d1 _)),(Obj.cls_mapFields ..).trans c1,?_⟩ (Heap.SameBut.update ..))⟩));rw[Obj.data_mapFields d1];simp[rawInt]
theorem zld{it t:Addr}{i:Nat}{xs:Array Value}{Q:Value->Shared->Prop}(hh:A.handled=none)(hi:s.heap.IsTupleIter it t i)(ht:s.heap.IsTuple t xs)(hx:xs[i]?=none)
  (q:∀h' e,Heap.ExtBut it s.heap h'->(∃o,h'.get? e=some o/\o.cls=.type "StopIteration")->E (.ref e) { s with heap:=h' }):wpAny (model prog w) A (Builtin.SmallTypes.nextOf (.ref it)) Q E s:=by
 obtain⟨oi,e1,c1,d1⟩:=id hi;obtain⟨ot,e2,c2,n2,d2⟩:=id ht;unfold Builtin.SmallTypes.nextOf;refine wpAny_bind (wpAny_callSpecial?_slot (name:=Str.ofString "__next__") hi.typeIs F.slot_tuple_iterator_next (wpAny_call_entry F.slot_tuple_iterator_next hi.typeIs F.entry_tuple_iterator_next (show wpAny _ _ (field (.ref it) 0 >>= _) _ _ s from wpAny_bind (wpAny_field e1 d1 (x:=.ref t) rfl ?_)) (F.args_tuple_iterator_next_1 _)));show wpAny _ _ (if (Value.ref t == Value.none)=true then _ else _) _ _ s;rw[if_neg (λz:(Value.ref t == Value.none)=true=>Bool.false_ne_true z)];refine(show wpAny _ _ (field (.ref it) 1 >>= _) _ _ s from wpAny_bind (wpAny_field e1 d1 (x:=.int i 0) rfl (show wpAny _ _ (seqItems? (.ref t) >>= _) _ _ s from wpAny_bind (wpAny_seqItems e2 d2 ?_))));simp only[hx,Int.toNat_natCast];refine wpAny_bind (wpAny_rule (wpAny_bind (wpAny_setField e1 d1 (by simp) (show wpAny _ _ (newExc (.type "StopIteration") [] >>= _) _ _ _ from wpAny_bind ?_))));simp only[newTuple,newExc];refine wpAny_bind (wpAny_newObj_type (wpAny_bind (m:=firstArgMember _ _) (wpAny_of_eq (a:=Value.none) (by first|rfl |(simp only[firstArgMember];rfl)) (wpAny_newObj_type ?_ (by size_fits)))) (by size_fits));simp only[raiseNew];refine wpAny_bind (wpAny_handled ?_)
 first |(rw[hh]) |(rw[show A.in1.handled=none from hh])
 exact wpAny_bind (wpAny_pure (wpAny_throw (q _ _ (((Heap.SameBut.update ..).extBut.push _).push _) ⟨_,Heap.get?_push_size _ rfl,rfl⟩)))
end
def zIt(b:Bool)(h:Heap)(it l:Addr)(i:Nat):Prop:=if b=true then h.IsTupleIter it l i else h.IsListIter it l i
def zSq(b:Bool)(h:Heap)(l:Addr)(xs:Array Value):Prop:=if b=true then h.IsTuple l xs else h.IsList l xs
def zOb(b:Bool)(l:Addr):Obj:={ cls:=.type (if b=true then "tuple_iterator" else "list_iterator"),data:=.fields #[.ref l,.int 0 0] }
theorem zIt.at{b:Bool}{h h':Heap}{it l:Addr}{i:Nat}(x:zIt b h it l i)(e:∀o,h.get? it=some o->h'.get? it=some o):zIt b h' it l i:=by
 cases b
 ·exact Heap.IsListIter.at (show h.IsListIter it l i from x) e
 ·exact Heap.IsTupleIter.at (show h.IsTupleIter it l i from x) e
theorem zSq.lt{b:Bool}{h:Heap}{l:Addr}{xs:Array Value}(x:zSq b h l xs):l<h.objs.size:=by
 cases b
 ·obtain⟨o,e,_⟩:=(show h.IsList l xs from x)
  exact Heap.lt_size e
 ·obtain⟨o,e,_⟩:=(show h.IsTuple l xs from x)
  exact Heap.lt_size e
theorem zIt.own{b:Bool}{h:Heap}{it l:Addr}{i:Nat}(x:zIt b h it l i):∃o,h.get? it=some o/\∀v,o.data ≠ .cell v:=by
 cases b
 ·obtain⟨o,e,c,d⟩:=(show h.IsListIter it l i from x)
  exact⟨o,e,λv q=>by rw[d]at q;cases q⟩
 ·obtain⟨o,e,c,d⟩:=(show h.IsTupleIter it l i from x)
  exact⟨o,e,λv q=>by rw[d]at q;cases q⟩
section
variable {prog:Program}{w:World}{A:Around}{E:Value->Shared->Prop}{s:Shared}
theorem zif{b:Bool}{it l:Addr}{i:Nat}{xs:Array Value}{x:Value}{Q:Value->Shared->Prop}(hi:zIt b s.heap it l i)(hl:zSq b s.heap l xs)(hx:xs[i]?=some x)
  (q:∀h',zIt b h' it l (i+1)->Heap.SameBut it s.heap h'->Q x { s with heap:=h' }):wpAny (model prog w) A (Builtin.SmallTypes.nextOf (.ref it)) Q E s:=by
 cases b
 ·exact wpAny_nextOf_list_item hi hl hx q
 ·exact zie hi hl hx q
theorem zeo{b:Bool}{it l:Addr}{i:Nat}{xs:Array Value}{Q:Value->Shared->Prop}(hh:A.handled=none)(hi:zIt b s.heap it l i)(hl:zSq b s.heap l xs)(hx:xs[i]?=none)
  (q:∀h' e,Heap.ExtBut it s.heap h'->(∃o,h'.get? e=some o/\o.cls=.type "StopIteration")->E (.ref e) { s with heap:=h' }):wpAny (model prog w) A (Builtin.SmallTypes.nextOf (.ref it)) Q E s:=by
 cases b
 ·exact wpAny_nextOf_list_end hh hi hl hx q
 ·exact zld hh hi hl hx q
theorem zmo{b:Bool}{l:Addr}{xs:Array Value}(hl:zSq b s.heap l xs){Q:Value->Shared->Prop}(q:Q (.ref s.heap.objs.size) { s with heap:=s.heap.push (zOb b l) }):wpAny (model prog w) A (pyIter (.ref l)) Q E s:=by
 cases b
 ·exact wpAny_pyIter_list hl q
 ·exact wpAny_pyIter_tuple hl q
end
def SqG(b:Bool)(K:PySem.W.Frag)(H:Hp)(a:Addr)(xs:List V):Prop:=if b=true then SqT K H a xs else SqL K H a xs
theorem Inv.sqG{X:Cx}{pins:List (Addr×Obj)}{σ:St}{H:Hp}{s:Shared}{b:Bool}{a:Addr}{xs:List V}(I:Inv X pins σ H s)(h:SqG b X.K H a xs):∃its:List Value,Vals xs its/\zSq b s.heap a its.toArray/\xs.length<=sizeLine:=by
 cases b
 ·obtain⟨its,r,p,z⟩:=I.list (show SqL X.K H a xs from h);exact⟨its,r,p.isList,z⟩
 ·obtain⟨its,r,p,z⟩:=I.tuple (show SqT X.K H a xs from h);exact⟨its,r,p,z⟩
theorem Inv.sqG_inj{X:Cx}{pins:List (Addr×Obj)}{σ:St}{H:Hp}{s:Shared}{b:Bool}{a:Addr}{xs ys:List V}(I:Inv X pins σ H s)(h:SqG b X.K H a xs)(h':SqG b X.K H a ys):xs=ys:=by
 cases b
 ·exact I.list_inj (show SqL X.K H a xs from h) h'
 ·exact I.tuple_inj (show SqT X.K H a xs from h) h'
section
variable {X:Cx}
theorem zle{prog:Program}{w:World}{A:Around}{E:Value->Shared->Prop}{s:Shared}{t sl:Addr}{its:Array Value}{vl vu:Value}{lo hi:Option Int}{Q:Value->Shared->Prop}(ht:IsTup s.heap t its)(hs:s.heap.IsSliceOf sl vl vu .none)(pl:IsPart vl lo)(pu:IsPart vu hi)
  (h0:HT.sIx its.size 0 lo=0) (h1:HT.sIx its.size its.size hi=its.size) (h:Q (.ref t) s):wpAny (model prog w) A (getItem (.ref t) (.ref sl)) Q E s:=by
 obtain⟨os,hos,hcs,hds⟩:=id hs;have hTs:s.TypeIs (.ref sl) "slice" :=⟨os,hos,hcs⟩
 unfold getItem
 try with_reducible refine wpAny_holding ?_
 first |(refine wpAny_bind (wpAny_pure ?_))|skip
 refine wpAny_bind (wpAny_sequenceKey ht.typeIs (by decide) (wpAny_bind (wpAny_callSpecial?_slot (name:=Str.ofString "__getitem__") ht.typeIs PyProof.Rows.slot_tuple_getitem (wpAny_call_entry PyProof.Rows.slot_tuple_getitem ht.typeIs entry_tuple_getitem ?_ (args_tuple_getitem _ _)))));refine(show wpAny _ _ (Builtin.Tuple.tupleItemsOf (.ref t) >>= _) _ _ s from wpAny_bind (tupleItemsOf_ ht (wpAny_bind (wpAny_typeOf hTs ?_))));rw[if_pos (by decide)];refine wpAny_bind (HT.sliceApplied_gen hs pl pu ?_);rw[h0,h1];have hy:(((((0:Nat):Int) == 0 && (1:Int) == 1) && (its.size-0 == its.size))=true):=by simp
 show wpAny _ _ (if (((0:Nat):Int) == 0 && (1:Int) == 1 && (its.size-0) == its.size)=true then _ else _) _ _ s;rw[if_pos hy];refine wpAny_bind (m:=Builtin.Tuple.tupleIsExact _) ?_;unfold Builtin.Tuple.tupleIsExact;refine wpAny_bind (wpAny_typeOf ht.typeIs (wpAny_pure ?_));rw[if_pos (by decide)]
 first
  |exact wpAny_bind (wpAny_rule (wpAny_pure ⟨_,rfl,wpAny_pure h⟩))
  |exact wpAny_bind (wpAny_rule (wpAny_bind (wpAny_pure (wpAny_pure ⟨_,rfl,wpAny_pure h⟩))))
  |exact wpAny_bind (wpAny_rule (wpAny_bind (wpAny_pure ⟨_,rfl,wpAny_pure h⟩)))
end
inductive Kn(H:Hp):V->Prop
 |non:Kn H .non
 |bl (b:Bool):Kn H (.bl b)
 |int (i:Int):Kn H (.int i)
 |str (x:Str):Kn H (.str x)
 |lst {a:Addr}{xs:List V} (e:H a=some (.lst xs)):Kn H (.ref a)
 |tup {a:Addr}{xs:List V} (e:H a=some (.tup xs)):Kn H (.ref a)
 |dct {a:Addr}{ks:List (Key×V)} (e:H a=some (.dK ks)):Kn H (.ref a)
def vi(H:Hp):V->Option (List V)
 |.ref a=>match H a with|some (.tup xs)=>some xs|_=>none
 |_=>none
theorem zep{H:Hp}{a:Addr}{xs:List V}(e:H a=some (.tup xs)):vi H (.ref a)=some xs:=by unfold vi;simp only[e]
def Th:Nat->Hp->V->Prop
 |0,H,x=>Kn H x
 |n+1,H,x=>Kn H x/\∀xs,vi H x=some xs->∀y∈xs,Th n H y
theorem Th.tup{n:Nat}{H:Hp}{a:Addr}{xs:List V}(e:H a=some (.tup xs))(h:∀y∈xs,Th n H y):Th (n+1) H (.ref a) :=
 ⟨.tup e,λys e' y hy=>by rw[zep e]at e';cases e';exact h y hy⟩
theorem Th.flat{n:Nat}{H:Hp}{x:V}(h:Kn H x)(e:vi H x=none):Th n H x:=by
 cases n with
 |zero=>exact h
 |succ n=>exact⟨h,λxs e'=>by rw[e]at e';cases e'⟩
theorem Th.int(n:Nat)(H:Hp)(i:Int):Th n H (.int i):=Th.flat (.int i) rfl
theorem Th.bl(n:Nat)(H:Hp)(b:Bool):Th n H (.bl b):=Th.flat (.bl b) rfl
theorem Th.str(n:Nat)(H:Hp)(x:Str):Th n H (.str x):=Th.flat (.str x) rfl
theorem Th.non(n:Nat)(H:Hp):Th n H .non:=Th.flat .non rfl
theorem Th.lst(n:Nat){H:Hp}{a:Addr}{xs:List V}(e:H a=some (.lst xs)):Th n H (.ref a):=Th.flat (.lst e) (by unfold vi;simp only[e])
theorem Th.dct(n:Nat){H:Hp}{a:Addr}{ks:List (Key×V)}(e:H a=some (.dK ks)):Th n H (.ref a):=Th.flat (.dct e) (by unfold vi;simp only[e])
def inB(lo hi:Int):V->Bool
 |.int i=>decide (lo<=i) && decide (i<=hi)
 |_=>false
def zu6:List (Int×Int)->List V->Bool
 |[],[]=>true
 |b::bs,x::xs=>inB b.1 b.2 x && zu6 bs xs
 |_,_=>false
def whB(bs:List (Int×Int)):Option (List V)->Bool
 |some xs=>zu6 bs xs
 |none=>false
theorem Kn.butL{H H':Hp}{p:Addr}{a b:List V}{x:V}(h1:H p=some (.lst a))(h2:H' p=some (.lst b))(s:But p H H')(h:Kn H x):Kn H' x:=by
 cases h with
 |non=>exact .non
 |bl b=>exact .bl b
 |int i=>exact .int i
 |str x=>exact .str x
 |@lst c xs e=>
  by_cases hc:c=p
  ·subst hc;exact .lst h2
  ·exact .lst (s _ _ hc e)
 |tup e=>exact .tup (s _ _ (zjo e h1 (by intro z;cases z)) e)
 |dct e=>exact .dct (s _ _ (zjo e h1 (by intro z;cases z)) e)
theorem zcw{H H':Hp}{p:Addr}{a b:List V}{x:V}(h1:H p=some (.lst a))(h2:H' p=some (.lst b))(s:But p H H')(h:Kn H x):vi H' x=vi H x:=by
 cases h with
 |@lst c xs e=>
  by_cases hc:c=p
  ·subst hc;unfold vi;simp only[e,h2]
  ·unfold vi;simp only[e,s _ _ hc e]
 |tup e=>have:=s _ _ (zjo e h1 (by intro z;cases z)) e;unfold vi;simp only[e,this]
 |dct e=>have:=s _ _ (zjo e h1 (by intro z;cases z)) e;unfold vi;simp only[e,this]
 |_=>rfl
theorem Th.butL:∀{n:Nat}{H H':Hp}{p:Addr}{a b:List V}{x:V},H p=some (.lst a)->H' p=some (.lst b)->But p H H'->Th n H x->Th n H' x
 |0,_,_,_,_,_,_,h1,h2,s,h=>Kn.butL h1 h2 s h
 |n+1,_,_,_,_,_,_,h1,h2,s,h=>⟨h.1.butL h1 h2 s,λxs e y hy=>Th.butL h1 h2 s (h.2 xs ((zcw h1 h2 s h.1).symm.trans e) y hy)⟩
theorem Th.pen{n:Nat}{H H':Hp}{p:Addr}{x:V}(h1:Pen H p)(h2:Pen H' p)(s:But p H H')(h:Th n H x):Th n H' x:=by
 obtain⟨a,b,c,e⟩:=h1;obtain⟨a',b',c',e'⟩:=h2;exact Th.butL e e' s h
theorem zsi{α:Type}{xs:List α}{k:Int}(h0:0<=k)(h1:k<xs.length):∃v,atI xs k=some v/\v∈xs:=by
 obtain⟨v,h,e⟩:=zsh h0 h1;exact⟨v,h,List.mem_of_getElem? e⟩
theorem zlf{X:Cx}:OpR X (compareOp .IsNot) (λx y H Q=>∃a b,x=.bl a/\y=.bl b/\Q (.bl (!decide (a=b))) H):=by
 intro pins s σ H x y v u Q I rx ry h;obtain⟨a,b,rfl,rfl,q⟩:=h
 cases rx
 cases ry
 cases a <;> cases b <;> exact wpAny_pure (yt I q rfl)
def NoD(H:Hp)(x:V):Prop:=∀a,x=.ref a->(∃xs,H a=some (.lst xs))\/∃xs,H a=some (.tup xs)
end L2
namespace L2
end L2
namespace L2
open PySem
theorem zo7{es:List Expr}{x1}{pos:Pos}{rest:List Expr}{env:Env}:starEach (.Tuple es x1 pos::rest) env=(false,eval (.Tuple es x1 pos) env)::starEach rest env:=by rw[starEach];intro e p h;cases h
theorem vx{c j}{pos:Pos}{rest:List Expr}{env:Env}:starEach (.Constant c j pos::rest) env=(false,eval (.Constant c j pos) env)::starEach rest env:=by rw[starEach];intro e p h;cases h
end L2
namespace L2
open PySem PySem.Spec PyProof.Rows
end L2
namespace L2
open PySem
theorem zu7{X:Cx}{e:Expr}{t:TT}(h:PW X e t):PT X e t:=h.pt
end L2
namespace L2
open PySem PySem.Spec PyProof.Rows
theorem NoD.butL{H H':Hp}{p:Addr}{a b:List V}{x:V}(h1:H p=some (.lst a))(h2:H' p=some (.lst b))(s:But p H H')(h:NoD H x):NoD H' x:=λc e=>by
 by_cases hc:c=p
 ·subst hc;exact .inl ⟨b,h2⟩
 ·rcases h c e with⟨xs,q⟩ |⟨xs,q⟩
  ·exact .inl ⟨xs,s _ _ hc q⟩
  ·exact .inr ⟨xs,s _ _ hc q⟩
def Ts:Nat->Hp->V->Prop
 |0,H,x=>Kn H x/\NoD H x
 |n+1,H,x=>Kn H x/\∀xs,vi H x=some xs->∀y∈xs,Ts n H y
theorem Ts.butL:∀{n:Nat}{H H':Hp}{p:Addr}{a b:List V}{x:V},H p=some (.lst a)->H' p=some (.lst b)->But p H H'->Ts n H x->Ts n H' x
 |0,_,_,_,_,_,_,h1,h2,s,h=>⟨h.1.butL h1 h2 s,h.2.butL h1 h2 s⟩
 |n+1,_,_,_,_,_,_,h1,h2,s,h=>⟨h.1.butL h1 h2 s,λxs e y hy=>Ts.butL h1 h2 s (h.2 xs ((zcw h1 h2 s h.1).symm.trans e) y hy)⟩
theorem Ts.pen{n:Nat}{H H':Hp}{p:Addr}{x:V}(h1:Pen H p)(h2:Pen H' p)(s:But p H H')(h:Ts n H x):Ts n H' x:=by
 obtain⟨a,b,c,e⟩:=h1;obtain⟨a',b',c',e'⟩:=h2;exact Ts.butL e e' s h
theorem Ts.tup{n:Nat}{H:Hp}{a:Addr}{xs:List V}(e:H a=some (.tup xs))(h:∀y∈xs,Ts n H y):Ts (n+1) H (.ref a) :=
 ⟨.tup e,λys e' y hy=>by rw[zep e]at e';cases e';exact h y hy⟩
theorem Ts.flat{n:Nat}{H:Hp}{x:V}(h:Kn H x)(e:vi H x=none)(d:NoD H x):Ts n H x:=by
 cases n with
 |zero=>exact⟨h,d⟩
 |succ n=>exact⟨h,λxs e'=>by rw[e]at e';cases e'⟩
theorem Ts.int(n:Nat)(H:Hp)(i:Int):Ts n H (.int i):=Ts.flat (.int i) rfl (λ_ z=>by cases z)
theorem Ts.bl(n:Nat)(H:Hp)(b:Bool):Ts n H (.bl b):=Ts.flat (.bl b) rfl (λ_ z=>by cases z)
theorem Ts.str(n:Nat)(H:Hp)(x:Str):Ts n H (.str x):=Ts.flat (.str x) rfl (λ_ z=>by cases z)
theorem Ts.non(n:Nat)(H:Hp):Ts n H .non:=Ts.flat .non rfl (λ_ z=>by cases z)
theorem Ts.lst(n:Nat){H:Hp}{a:Addr}{xs:List V}(e:H a=some (.lst xs)):Ts n H (.ref a):=Ts.flat (.lst e) (by unfold vi;simp only[e]) (λc z=>by cases z;exact .inl ⟨xs,e⟩)
theorem Ts.dct(n:Nat){H:Hp}{a:Addr}{ks:List (Key×V)}(e:H a=some (.dK ks)):Ts (n+1) H (.ref a):=⟨.dct e,λxs e'=>by unfold vi at e';simp only[e]at e';cases e'⟩
open AutoSeq1 (wpAny_loadPart')
section
variable {X:Cx}
end
end L2
namespace L2
end L2
namespace L2
open PySem PySem.Spec PyProof.Rows
section
variable {X:Cx}{a b c d:Expr}{ta tb tc td:TE}{pos:Pos}
end
abbrev D:=PyData
def kD:Key->D
 |.inl i=>.int i
 |.inr x=>.str x
def zbb(a:Addr):HO:=.ext λh=>∃(x y z:Int) (tx ty tz:Tok) (n:Nat),h.get? a=some { cls:=.type "list",data:=.seq #[.int x tx,.int y ty,.int z tz] n }
def HO.per:HO->Bool
 |.tup _=>true
 |.frz _ _=>true
 |.ext _=>true
 |_=>false
def Pers(H H':Hp):Prop:=∀a o,H a=some o->o.per=true->H' a=some o
theorem Pers.refl(H:Hp):Pers H H:=λ_ _ h _=>h
theorem Pers.trans{H H1 H2:Hp}(a:Pers H H1)(b:Pers H1 H2):Pers H H2:=λc o h p=>b c o (a c o h p) p
theorem Same.pers{H H':Hp}(s:Same H H'):Pers H H':=λa o h _=>s a o h
theorem Pers.sqT{K:PySem.W.Frag}{H H':Hp}{a:Addr}{xs:List V}(p:Pers H H')(h:SqT K H a xs):SqT K H' a xs:=by
 rcases h with(h |⟨o,h⟩)|h
 ·exact .inl (.inl (p _ _ h rfl))
 ·exact .inl (.inr ⟨o,p _ _ h rfl⟩)
 ·exact .inr h
section
variable (K:PySem.W.Frag)
mutual
inductive Rep(H:Hp):D->V->Prop
 |non:Rep H .none .non
 |bl {b:Bool}:Rep H (.bool b) (.bl b)
 |int {i:Int}:Rep H (.int i) (.int i)
 |str {x:Str}:Rep H (.str x) (.str x)
 |tup {xs:List D}{a:Addr}{vs:List V} (h:SqT K H a vs) (r:Reps H xs vs):Rep H (.tuple xs) (.ref a)
 |lst {xs:List D}{a:Addr}{vs:List V}{o:Obj} (h:H a=some (.frz o (.lst vs))) (r:Reps H xs vs):Rep H (.list xs) (.ref a)
 |dic {kvs:List (D×D)}{a:Addr}{kws:List (Key×V)}{o:Obj} (h:H a=some (.frz o (.dK kws))) (r:RepK H kvs kws):Rep H (.dict kvs) (.ref a)
inductive Reps(H:Hp):List D->List V->Prop
 |nil:Reps H [] []
 |cons {d:D}{v:V}{ds:List D}{vs:List V} (r:Rep H d v) (t:Reps H ds vs):Reps H (d::ds) (v::vs)
inductive RepK(H:Hp):List (D×D)->List (Key×V)->Prop
 |nil:RepK H [] []
 |cons {k:Key}{d:D}{v:V}{ds:List (D×D)}{vs:List (Key×V)} (r:Rep H d v) (t:RepK H ds vs):RepK H ((kD k,d)::ds) ((k,v)::vs)
end
end
section
variable {K:PySem.W.Frag}{H H':Hp}
mutual
theorem Rep.mono(p:Pers H H'):∀{d:D}{v:V},Rep K H d v->Rep K H' d v
 |_,_,.non=>.non
 |_,_,.bl=>.bl
 |_,_,.int=>.int
 |_,_,.str=>.str
 |_,_,.tup h r=>.tup (p.sqT h) (Reps.mono p r)
 |_,_,.lst h r=>.lst (p _ _ h rfl) (Reps.mono p r)
 |_,_,.dic h r=>.dic (p _ _ h rfl) (RepK.mono p r)
theorem Reps.mono(p:Pers H H'):∀{ds:List D}{vs:List V},Reps K H ds vs->Reps K H' ds vs
 |_,_,.nil=>.nil
 |_,_,.cons r t=>.cons (Rep.mono p r) (Reps.mono p t)
theorem RepK.mono(p:Pers H H'):∀{ds:List (D×D)}{vs:List (Key×V)},RepK K H ds vs->RepK K H' ds vs
 |_,_,.nil=>.nil
 |_,_,.cons r t=>.cons (Rep.mono p r) (RepK.mono p t)
end
theorem Reps.length:∀{ds:List D}{vs:List V},Reps K H ds vs->ds.length=vs.length
 |_,_,.nil=>rfl
 |_,_,.cons _ t=>by simp[t.length]
theorem Reps.append:∀{ds es:List D}{vs ws:List V},Reps K H ds vs->Reps K H es ws->Reps K H (ds++es) (vs++ws)
 |_,_,_,_,.nil,s=>s
 |_,_,_,_,.cons r t,s=>.cons r (t.append s)
theorem Reps.get:∀{ds:List D}{vs:List V}{i:Nat}{d:D},Reps K H ds vs->ds[i]?=some d->∃v,vs[i]?=some v/\Rep K H d v
 |_,_,_,_,.nil,e=>by simp at e
 |_,_,0,_,.cons r _,e=>by simp at e;subst e;exact⟨_,rfl,r⟩
 |_,_,i+1,_,.cons _ t,e=>by
  obtain⟨v,h1,h2⟩:=t.get (i:=i) (by simpa using e);exact⟨v,by simpa using h1,h2⟩
theorem Reps.get':∀{ds:List D}{vs:List V}{i:Nat}{v:V},Reps K H ds vs->vs[i]?=some v->∃d,ds[i]?=some d/\Rep K H d v
 |_,_,_,_,.nil,e=>by simp at e
 |_,_,0,_,.cons r _,e=>by simp at e;subst e;exact⟨_,rfl,r⟩
 |_,_,i+1,_,.cons _ t,e=>by
  obtain⟨v,h1,h2⟩:=t.get' (i:=i) (by simpa using e);exact⟨v,by simpa using h1,h2⟩
theorem Reps.take:∀{ds:List D}{vs:List V} (n:Nat),Reps K H ds vs->Reps K H (ds.take n) (vs.take n)
 |_,_,0,_=>.nil
 |_,_,_+1,.nil=>.nil
 |_,_,n+1,.cons r t=>.cons r (t.take n)
theorem Reps.drop:∀{ds:List D}{vs:List V} (n:Nat),Reps K H ds vs->Reps K H (ds.drop n) (vs.drop n)
 |_,_,0,r=>r
 |_,_,_+1,.nil=>.nil
 |_,_,n+1,.cons _ t=>t.drop n
theorem Reps.set{d:D}{v:V}(r:Rep K H d v):∀{ds:List D}{vs:List V} (i:Nat),Reps K H ds vs->Reps K H (ds.set i d) (vs.set i v)
 |_,_,_,.nil=>.nil
 |_,_,0,.cons _ t=>.cons r t
 |_,_,i+1,.cons q t=>.cons q (Reps.set r i t)
theorem Reps.reverse{ds:List D}{vs:List V}(h:Reps K H ds vs):Reps K H ds.reverse vs.reverse:=by
 induction ds generalizing vs with
 |nil=>cases h;exact .nil
 |cons d ds ih=>
  cases h with
  |cons r t=>rw[List.reverse_cons,List.reverse_cons];exact(ih t).append (.cons r .nil)
theorem Reps.rep{ds:List D}{vs:List V}(h:Reps K H ds vs):∀k:Nat,Reps K H (List.replicate k ds).flatten (List.replicate k vs).flatten
 |0=>.nil
 |k+1=>by
  rw[List.replicate_succ,List.replicate_succ,List.flatten_cons,List.flatten_cons];exact h.append (h.rep k)
theorem Reps.ints:∀{ns:List Int},Reps K H (ns.map PyData.int) (ns.map V.int)
 |[]=>.nil
 |_::_=>.cons .int Reps.ints
theorem Reps.of_ints{ns:List Int}{vs:List V}(h:Reps K H (ns.map PyData.int) vs):vs=ns.map V.int:=by
 induction ns generalizing vs with
 |nil=>cases h;rfl
 |cons n ns ih=>
  cases h with
  |cons r t=>cases r;rw[ih t];rfl
theorem Reps.same(s:Same H H'){ds:List D}{vs:List V}(r:Reps K H ds vs):Reps K H' ds vs:=r.mono s.pers
theorem Rep.same(s:Same H H'){d:D}{v:V}(r:Rep K H d v):Rep K H' d v:=r.mono s.pers
end
section
variable (K:PySem.W.Frag)
mutual
inductive RepN(H:Hp):D->V->Prop
 |non:RepN H .none .non
 |bl {b:Bool}:RepN H (.bool b) (.bl b)
 |int {i:Int}:RepN H (.int i) (.int i)
 |str {x:Str}:RepN H (.str x) (.str x)
 |tup {xs:List D}{a:Addr}{vs:List V} (h:SqT K H a vs) (r:RepNs H xs vs):RepN H (.tuple xs) (.ref a)
 |lst {xs:List D}{a:Addr}{vs:List V} (h:Rd H a (.lst vs)) (r:RepNs H xs vs):RepN H (.list xs) (.ref a)
inductive RepNs(H:Hp):List D->List V->Prop
 |nil:RepNs H [] []
 |cons {d:D}{v:V}{ds:List D}{vs:List V} (r:RepN H d v) (t:RepNs H ds vs):RepNs H (d::ds) (v::vs)
end
end
section
variable {K:PySem.W.Frag}{H H':Hp}
theorem Same.rd(s:Same H H'){a:Addr}{u:HO}(h:Rd H a u):Rd H' a u:=by
 rcases h with h |⟨o,h⟩
 ·exact .inl (s _ _ h)
 ·exact .inr ⟨o,s _ _ h⟩
mutual
theorem RepN.gen(ht:∀{a vs},SqT K H a vs->SqT K H' a vs)(hl:∀{a vs},Rd H a (.lst vs)->Rd H' a (.lst vs)):∀{d:D}{v:V},RepN K H d v->RepN K H' d v
 |_,_,.non=>.non
 |_,_,.bl=>.bl
 |_,_,.int=>.int
 |_,_,.str=>.str
 |_,_,.tup h r=>.tup (ht h) (RepNs.gen ht hl r)
 |_,_,.lst h r=>.lst (hl h) (RepNs.gen ht hl r)
theorem RepNs.gen(ht:∀{a vs},SqT K H a vs->SqT K H' a vs)(hl:∀{a vs},Rd H a (.lst vs)->Rd H' a (.lst vs)):∀{ds:List D}{vs:List V},RepNs K H ds vs->RepNs K H' ds vs
 |_,_,.nil=>.nil
 |_,_,.cons r t=>.cons (RepN.gen ht hl r) (RepNs.gen ht hl t)
end
theorem RepN.same(s:Same H H'){d:D}{v:V}(h:RepN K H d v):RepN K H' d v:=h.gen (λh=>s.pers.sqT h) (λh=>s.rd h)
theorem RepN.frz{a:Addr}{vs:List V}{o:Obj}(e:H a=some (.lst vs)){d:D}{v:V}(h:RepN K H d v):RepN K (upd H a (.frz o (.lst vs))) d v:=by
 have ne:∀{b:Addr}{u:HO},H b=some u->u ≠ .lst vs->b≠a:=λ{b u} h n z=>by rw[z,e]at h;cases h;exact n rfl
 refine h.gen (λ{b ws} h=>?_) (λ{b ws} h=>?_)
 ·rcases h with(h |⟨o,h⟩)|h
  ·exact .inl (.inl (by rw[zw (ne h (by intro z;cases z))];exact h))
  ·exact .inl (.inr ⟨o,by rw[zw (ne h (by intro z;cases z))];exact h⟩)
  ·exact .inr h
 ·rcases h with h |⟨o',h⟩
  ·by_cases z:b=a
   ·subst z;rw[e]at h
    cases h;exact .inr ⟨_,zx⟩
   ·exact .inl (by rw[zw z];exact h)
  ·exact .inr ⟨o',by rw[zw (ne h (by intro z;cases z))];exact h⟩
end
inductive Mx where
 |v (d:D)|l (xs:List D)
inductive O where
 |lst (xs:List D)
 |dct (kvs:List (Key×D))
 |nst (xss:List (List D)) (ds:List D)
 |anc (a:Addr) (o:O)
 |ins (c:Str) (fs:List (Str×D))
 |mix (ms:List Mx)
inductive W where
 |val (d:D)|vw (xs:List D)|vd (xs:List (Key×D))|exc (x:Str×List (Str×Int))|scr (ns:List Int)|pen|tmp (d:D)|own (o:O)
abbrev DSt:=List (Option W)
def zsj:Option W->Option W
 |some (.tmp _)=>none
 |w=>w
def clr(σ:DSt):DSt:=σ.map zsj
section
variable (K:PySem.W.Frag)
def RepL(H:Hp)(xs:List D)(v:V):Prop:=∃a vs,v=.ref a/\Rd H a (.lst vs)/\Reps K H xs vs
def RepT(H:Hp)(d:D)(v:V):Prop:=Rep K H d v\/∃xs,d=.list xs/\RepL K H xs v
def RepKV(K:PySem.W.Frag)(H:Hp)(ks:List (Key×D))(vs:List (Key×V)):Prop:=ks.map (·.1)=vs.map (·.1)/\Reps K H (ks.map (·.2)) (vs.map (·.2))
def Nst(H:Hp):List (List D)->List Addr->Prop
 |[],[]=>True
 |xs::xss,b::bs=>(∃vs,H b=some (.lst vs)/\Reps K H xs vs)/\Nst H xss bs
 |_,_=>False
def MxR(H:Hp):List Mx->List V->List Addr->Prop
 |[],[],[]=>True
 |.v d::ms,u::us,bs=>Rep K H d u/\MxR H ms us bs
 |.l xs::ms,u::us,b::bs=>u=.ref b/\(∃vs,H b=some (.lst vs)/\Reps K H xs vs)/\MxR H ms us bs
 |_,_,_=>False
def RepO(H:Hp):O->V->List Addr->Prop
 |.mix ms,v,fp=>∃a us bs,v=.ref a/\fp=a::bs/\H a=some (.lst us)/\MxR K H ms us bs
 |.lst xs,v,fp=>∃a vs,v=.ref a/\fp = [a]/\H a=some (.lst vs)/\Reps K H xs vs
 |.dct ks,v,fp=>∃a vs,v=.ref a/\fp = [a]/\H a=some (.dK vs)/\RepKV K H ks vs
 |.nst xss ds,v,fp=>∃a as us,v=.ref a/\fp=a::as/\H a=some (.lst (as.map V.ref++us))/\Nst K H xss as/\Reps K H ds us
 |.anc a o,v,fp=>v=.ref a/\RepO H o v fp
 |.ins c fs,v,fp=>∃a dx C fv,v=.ref a/\fp = [a,dx]/\PySem.W.nsIn K mainGlobals c=some (some (.ref C))/\H a=some (.ins C dx fv)/\H dx=some (.own a)/\fv.map (·.1)=fs.map (·.1)/\Reps K H (fs.map (·.2)) (fv.map (·.2))
def RepD(H:Hp)(xs:List (Key×D))(v:V):Prop:=∃a vs,v=.ref a/\H a=some (.dK vs)/\RepKV K H xs vs
def zwn(C:Addr)(od:Option Addr)(a:Addr):HO:=.ext λh=>∃oe,h.get? a=some oe/\oe.cls=.ref C/\oe.dict=od/\∃vs,oe.data=.fields vs
def RepX(H:Hp)(x:Str×List (Str×Int))(v:V):Prop:=∃a C od,v=.ref a/\PySem.W.nsIn K mainGlobals x.1=some (some (.ref C))/\H a=some (zwn C od a)/\((x.2 = []/\od=none)\/∃d,od=some d/\H d=some (.xd (x.2.map λp=>(p.1,V.int p.2))))
inductive Slots(H₀ H:Hp):DSt->St->List Addr->Prop
 |nil:Slots H₀ H [] [] []
 |none {v:Option V}{ws:DSt}{vs:St}{fp:List Addr} (t:Slots H₀ H ws vs fp):Slots H₀ H (Option.none::ws) (v::vs) fp
 |val {d:D}{v:V}{ws:DSt}{vs:St}{fp:List Addr} (r:Rep K H d v) (t:Slots H₀ H ws vs fp):Slots H₀ H (some (.val d)::ws) (some v::vs) fp
 |vw {xs:List D}{v:V}{ws:DSt}{vs:St}{fp:List Addr} (r:RepL K H₀ xs v) (t:Slots H₀ H ws vs fp):Slots H₀ H (some (.vw xs)::ws) (some v::vs) fp
 |vd {xs:List (Key×D)}{v:V}{ws:DSt}{vs:St}{fp:List Addr} (r:RepD K H₀ xs v) (t:Slots H₀ H ws vs fp):Slots H₀ H (some (.vd xs)::ws) (some v::vs) fp
 |exc {xs:Str×List (Str×Int)}{v:V}{ws:DSt}{vs:St}{fp:List Addr} (r:RepX K H₀ xs v) (t:Slots H₀ H ws vs fp):Slots H₀ H (some (.exc xs)::ws) (some v::vs) fp
 |scr {ns:List Int}{a:Addr}{ws:DSt}{vs:St}{fp:List Addr} (r:SqL K H₀ a (ns.map V.int)) (t:Slots H₀ H ws vs fp):Slots H₀ H (some (.scr ns)::ws) (some (.ref a)::vs) fp
 |pen {a:Addr}{ws:DSt}{vs:St}{fp:List Addr} (r:H a=some (zbb a)) (t:Slots H₀ H ws vs fp):Slots H₀ H (some .pen::ws) (some (.ref a)::vs) fp
 |tmp {d:D}{v:V}{ws:DSt}{vs:St}{fp:List Addr} (r:RepN K H d v) (t:Slots H₀ H ws vs fp):Slots H₀ H (some (.tmp d)::ws) (some v::vs) fp
 |own {o:O}{v:V}{f:List Addr}{ws:DSt}{vs:St}{fp:List Addr} (r:RepO K H o v f) (t:Slots H₀ H ws vs fp):Slots H₀ H (some (.own o)::ws) (some v::vs) (f++fp)
structure DOk(H₀ H:Hp)(σD:DSt)(σ:St):Prop where
 same:Same H₀ H
 slots:∃fp,Slots K H₀ H σD σ fp/\fp.Nodup/\∀a∈fp,H₀ a=none
end
section
variable {K:PySem.W.Frag}{H₀ H H':Hp}{σD:DSt}{σ:St}
theorem RepX.same(s:Same H H'){xs:Str×List (Str×Int)}{v:V}:RepX K H xs v->RepX K H' xs v:=by
 rintro ⟨a,C,od,rfl,n,h,r⟩;refine⟨a,C,od,rfl,n,s _ _ h,?_⟩;rcases r with r |⟨d,e,r⟩
 ·exact .inl r
 ·exact .inr ⟨d,e,s _ _ r⟩
theorem RepD.same(s:Same H H'){xs:List (Key×D)}{v:V}:RepD K H xs v->RepD K H' xs v:=by
 rintro ⟨a,vs,rfl,h,r⟩;exact⟨a,vs,rfl,s _ _ h,r.1,r.2.same s⟩
theorem RepL.same(s:Same H H'){xs:List D}{v:V}:RepL K H xs v->RepL K H' xs v:=by
 rintro ⟨a,vs,rfl,h,r⟩;refine⟨a,vs,rfl,?_,r.same s⟩;rcases h with h |⟨o,h⟩
 ·exact .inl (s _ _ h)
 ·exact .inr ⟨o,s _ _ h⟩
theorem RepT.same(s:Same H H'){d:D}{v:V}:RepT K H d v->RepT K H' d v
 |.inl h=>.inl (h.same s)
 |.inr ⟨xs,e,h⟩=>.inr ⟨xs,e,h.same s⟩
theorem Rep.top{d:D}{v:V}(h:Rep K H d v):RepT K H d v:=.inl h
theorem RepT.list{xs:List D}{v:V}(h:RepT K H (.list xs) v):RepL K H xs v:=by
 rcases h with h |⟨ys,e,h⟩
 ·cases h with
  |lst h r=>exact⟨_,_,rfl,.inr ⟨_,h⟩,r⟩
 ·cases e;exact h
theorem RepL.sq{xs:List D}{v:V}(h:RepL K H xs v):∃a vs,v=.ref a/\SqL K H a vs/\Reps K H xs vs:=by
 obtain⟨a,vs,rfl,h,r⟩:=h;exact⟨a,vs,rfl,.inl h,r⟩
theorem RepT.rep{d:D}{v:V}(h:RepT K H d v)(n:∀xs,d ≠ .list xs):Rep K H d v:=by
 rcases h with h |⟨ys,e,_⟩
 ·exact h
 ·exact absurd e (n ys)
theorem Nst.len:∀{xss:List (List D)}{as:List Addr},Nst K H xss as->as.length=xss.length
 |[],[],_=>rfl
 |_::_,_::_,h=>by rw[List.length_cons,List.length_cons,Nst.len h.2]
theorem Nst.live:∀{xss:List (List D)}{as:List Addr},Nst K H xss as->∀b∈as,∃vs,H b=some (.lst vs)
 |[],[],_,b,hb=>by cases hb
 |_::_,_::_,h,b,hb=>by
  rcases List.mem_cons.mp hb with rfl|hb
  ·obtain⟨vs,e,_⟩:=h.1;exact⟨vs,e⟩
  ·exact Nst.live h.2 b hb
theorem Nst.keep(p:Pers H H'):∀{xss:List (List D)}{as:List Addr},(∀a∈as,∀u,H a=some u->H' a=some u)->Nst K H xss as->Nst K H' xss as
 |[],[],_,_=>trivial
 |_::_,b::_,k,h=>by
  obtain⟨⟨vs,e,r⟩,t⟩:=h;exact⟨⟨vs,k b List.mem_cons_self _ e,r.mono p⟩,Nst.keep p (λa ha=>k a (List.mem_cons_of_mem _ ha)) t⟩
theorem MxR.live:∀{ms:List Mx}{us:List V}{bs:List Addr},MxR K H ms us bs->∀b∈bs,∃vs,H b=some (.lst vs)
 |[],[],[],_,b,hb=>by cases hb
 |.v _::_,_::_,_,h,b,hb=>MxR.live h.2 b hb
 |.l _::_,_::_,c::_,h,b,hb=>by
  rcases List.mem_cons.mp hb with rfl|hb
  ·obtain⟨vs,e,_⟩:=h.2.1;exact⟨vs,e⟩
  ·exact MxR.live h.2.2 b hb
theorem MxR.keep(p:Pers H H'):∀{ms:List Mx}{us:List V}{bs:List Addr},(∀a∈bs,∀u,H a=some u->H' a=some u)->MxR K H ms us bs->MxR K H' ms us bs
 |[],[],[],_,_=>trivial
 |.v _::_,_::_,_,k,h=>⟨h.1.mono p,MxR.keep p k h.2⟩
 |.l _::_,_::_,b::_,k,h=>by
  obtain⟨e0,⟨vs,e,r⟩,t⟩:=h;exact⟨e0,⟨vs,k b List.mem_cons_self _ e,r.mono p⟩,MxR.keep p (λa ha=>k a (List.mem_cons_of_mem _ ha)) t⟩
theorem MxR.fp{H2:Hp}:∀{ms:List Mx}{us:List V}{bs cs:List Addr},MxR K H ms us bs->MxR K H2 ms us cs->bs=cs
 |[],[],[],[],_,_=>rfl
 |.v _::_,_::_,_,_,h,g=>MxR.fp h.2 g.2
 |.l _::_,_::_,_::_,_::_,h,g=>by
  have:=h.1.symm.trans g.1
  cases this;rw[MxR.fp h.2.2 g.2.2]
theorem MxR.len:∀{ms:List Mx}{us:List V}{bs:List Addr},MxR K H ms us bs->ms.length=us.length
 |[],[],[],_=>rfl
 |.v _::_,_::_,_,h=>by rw[List.length_cons,List.length_cons,MxR.len h.2]
 |.l _::_,_::_,_::_,h=>by rw[List.length_cons,List.length_cons,MxR.len h.2.2]
theorem RepO.live{o:O}{v:V}{f:List Addr}(h:RepO K H o v f):∀a∈f,∃u,H a=some u/\u.per=false:=by
 induction o with
 |anc a o ih=>exact ih h.2
 |mix ms=>
  obtain⟨a,us,bs,rfl,rfl,e,m⟩:=h;intro b hb;rcases List.mem_cons.mp hb with rfl|hb
  ·exact⟨_,e,rfl⟩
  ·obtain⟨vs,e2⟩:=m.live b hb;exact⟨_,e2,rfl⟩
 |ins c fs=>
  obtain⟨a,dx,C,fv,rfl,rfl,_,e1,e2,_⟩:=h;intro b hb;simp only[List.mem_cons,List.not_mem_nil,or_false]at hb;rcases hb with rfl|rfl
  ·exact⟨_,e1,rfl⟩
  ·exact⟨_,e2,rfl⟩
 |lst xs=>
  obtain⟨a,vs,rfl,rfl,e,r⟩:=h;intro b hb;rw[List.mem_singleton.mp hb];exact⟨_,e,rfl⟩
 |dct ks=>
  obtain⟨a,vs,rfl,rfl,e,r⟩:=h;intro b hb;rw[List.mem_singleton.mp hb];exact⟨_,e,rfl⟩
 |nst xss ds=>
  obtain⟨a,as,us,rfl,rfl,e,n,r⟩:=h;intro b hb;rcases List.mem_cons.mp hb with rfl|hb
  ·exact⟨_,e,rfl⟩
  ·obtain⟨vs,e2⟩:=n.live b hb;exact⟨_,e2,rfl⟩
theorem RepO.keep{o:O}{v:V}{f:List Addr}(p:Pers H H')(k:∀a∈f,∀u,H a=some u->H' a=some u)(h:RepO K H o v f):RepO K H' o v f:=by
 induction o with
 |anc a o ih=>exact⟨h.1,ih h.2⟩
 |mix ms=>
  obtain⟨a,us,bs,rfl,rfl,e,m⟩:=h;exact⟨a,us,bs,rfl,rfl,k a List.mem_cons_self _ e,m.keep p λb hb=>k b (List.mem_cons_of_mem _ hb)⟩
 |ins c fs=>
  obtain⟨a,dx,C,fv,rfl,rfl,n,e1,e2,e3,r⟩:=h;exact⟨a,dx,C,fv,rfl,rfl,n,k a (by simp) _ e1,k dx (by simp) _ e2,e3,r.mono p⟩
 |lst xs=>
  obtain⟨a,vs,rfl,rfl,e,r⟩:=h;exact⟨a,vs,rfl,rfl,k a (by simp) _ e,r.mono p⟩
 |dct ks=>
  obtain⟨a,vs,rfl,rfl,e,r⟩:=h;exact⟨a,vs,rfl,rfl,k a (by simp) _ e,r.1,r.2.mono p⟩
 |nst xss ds=>
  obtain⟨a,as,us,rfl,rfl,e,n,r⟩:=h;exact⟨a,as,us,rfl,rfl,k a List.mem_cons_self _ e,n.keep p λb hb=>k b (List.mem_cons_of_mem _ hb),r.mono p⟩
theorem Slots.live{fp:List Addr}(h:Slots K H₀ H σD σ fp):∀a∈fp,∃u,H a=some u/\u.per=false:=by
 induction h with
 |nil=>intro a ha;cases ha
 |none _ ih=>exact ih
 |val _ _ ih=>exact ih
 |vw _ _ ih=>exact ih
 |vd _ _ ih=>exact ih
 |exc _ _ ih=>exact ih
 |scr _ _ ih=>exact ih
 |pen _ _ ih=>exact ih
 |tmp _ _ ih=>exact ih
 |own r _ ih=>
  intro a ha;rcases List.mem_append.mp ha with z|z
  ·exact r.live a z
  ·exact ih a z
theorem Slots.keep{fp:List Addr}(p:Pers H H')(kn:∀{d:D}{v:V},RepN K H d v->RepN K H' d v)(k:∀a∈fp,∀u,H a=some u->H' a=some u)(h:Slots K H₀ H σD σ fp):Slots K H₀ H' σD σ fp:=by
 induction h with
 |nil=>exact .nil
 |none _ ih=>exact .none (ih k)
 |val r _ ih=>exact .val (r.mono p) (ih k)
 |vw r _ ih=>exact .vw r (ih k)
 |vd r _ ih=>exact .vd r (ih k)
 |exc r _ ih=>exact .exc r (ih k)
 |scr r _ ih=>exact .scr r (ih k)
 |pen r _ ih=>exact .pen (p _ _ r rfl) (ih k)
 |tmp r _ ih=>exact .tmp (kn r) (ih k)
 |own r _ ih=>exact .own (r.keep p λa ha=>k a (List.mem_append_left _ ha)) (ih λa ha=>k a (List.mem_append_right _ ha))
theorem Slots.keepC{fp:List Addr}(p:Pers H H')(k:∀a∈fp,∀u,H a=some u->H' a=some u)(h:Slots K H₀ H σD σ fp):Slots K H₀ H' (clr σD) σ fp:=by
 induction h with
 |nil=>exact .nil
 |none _ ih=>exact .none (ih k)
 |val r _ ih=>exact .val (r.mono p) (ih k)
 |vw r _ ih=>exact .vw r (ih k)
 |vd r _ ih=>exact .vd r (ih k)
 |exc r _ ih=>exact .exc r (ih k)
 |scr r _ ih=>exact .scr r (ih k)
 |pen r _ ih=>exact .pen (p _ _ r rfl) (ih k)
 |tmp r _ ih=>exact .none (ih k)
 |own r _ ih=>exact .own (r.keep p λa ha=>k a (List.mem_append_left _ ha)) (ih λa ha=>k a (List.mem_append_right _ ha))
theorem Slots.length{fp:List Addr}(h:Slots K H₀ H σD σ fp):σD.length=σ.length:=by
 induction h with
 |nil=>rfl
 |none _ ih=>simp[ih]
 |val _ _ ih=>simp[ih]
 |vw _ _ ih=>simp[ih]
 |vd _ _ ih=>simp[ih]
 |exc _ _ ih=>simp[ih]
 |scr _ _ ih=>simp[ih]
 |pen _ _ ih=>simp[ih]
 |tmp _ _ ih=>simp[ih]
 |own _ _ ih=>simp[ih]
theorem DOk.after(s:Same H H')(h:DOk K H₀ H σD σ):DOk K H₀ H' σD σ:=by
 obtain⟨s0,fp,sl,nd,fr⟩:=h;exact⟨s0.trans s,fp,sl.keep s.pers (λh=>h.same s) λa _ u e=>s a u e,nd,fr⟩
theorem DOk.len(h:DOk K H₀ H σD σ):σD.length=σ.length:=let ⟨_,_,sl,_⟩:=h;sl.length
theorem Slots.get{fp:List Addr}(h:Slots K H₀ H σD σ fp):∀{i:Nat}{w:W},σD[i]?=some (some w)->∃v,σ[i]?=some (some v)/\match w with
  |.val d=>Rep K H d v
  |.vw xs=>RepL K H₀ xs v
  |.vd xs=>RepD K H₀ xs v
  |.exc xs=>RepX K H₀ xs v
  |.scr ns=>∃a,v=.ref a/\SqL K H₀ a (ns.map V.int)
  |.pen=>∃a,v=.ref a/\H a=some (zbb a)
  |.tmp d=>RepN K H d v
  |.own o=>∃f,RepO K H o v f/\∀a∈f,a∈fp:=by
 induction h with
 |nil=>intro i w e;simp at e
 |none _ ih=>
  intro i w e
  cases i with
  |zero=>simp at e
  |succ i=>exact ih (by simpa using e)
 |val r _ ih=>
  intro i w e
  cases i with
  |zero=>simp at e;subst e;exact⟨_,rfl,r⟩
  |succ i=>exact ih (by simpa using e)
 |vw r _ ih=>
  intro i w e
  cases i with
  |zero=>simp at e;subst e;exact⟨_,rfl,r⟩
  |succ i=>exact ih (by simpa using e)
 |vd r _ ih=>
  intro i w e
  cases i with
  |zero=>simp at e;subst e;exact⟨_,rfl,r⟩
  |succ i=>exact ih (by simpa using e)
 |exc r _ ih=>
  intro i w e
  cases i with
  |zero=>simp at e;subst e;exact⟨_,rfl,r⟩
  |succ i=>exact ih (by simpa using e)
 |scr r _ ih=>
  intro i w e
  cases i with
  |zero=>simp at e;subst e;exact⟨_,rfl,_,rfl,r⟩
  |succ i=>exact ih (by simpa using e)
 |pen r _ ih=>
  intro i w e
  cases i with
  |zero=>simp at e;subst e;exact⟨_,rfl,_,rfl,r⟩
  |succ i=>exact ih (by simpa using e)
 |tmp r _ ih=>
  intro i w e
  cases i with
  |zero=>simp at e;subst e;exact⟨_,rfl,r⟩
  |succ i=>exact ih (by simpa using e)
 |own r _ ih=>
  intro i w e
  cases i with
  |zero=>simp at e;subst e;exact⟨_,rfl,_,r,λa ha=>List.mem_append_left _ ha⟩
  |succ i=>
   obtain⟨v,e1,e2⟩:=ih (by simpa using e);refine⟨v,e1,?_⟩
   cases w with
   |val d=>exact e2
   |vw xs=>exact e2
   |vd xs=>exact e2
   |exc xs=>exact e2
   |scr ns=>exact e2
   |pen=>exact e2
   |tmp d=>exact e2
   |own o=>obtain⟨f,r,m⟩:=e2;exact⟨f,r,λa ha=>List.mem_append_right _ (m a ha)⟩
theorem DOk.val(h:DOk K H₀ H σD σ){i:Nat}{d:D}(e:σD[i]?=some (some (.val d))):∃v,σ[i]?=some (some v)/\Rep K H d v:=let ⟨_,_,sl,_⟩:=h;sl.get e
theorem DOk.vw(h:DOk K H₀ H σD σ){i:Nat}{xs:List D}(e:σD[i]?=some (some (.vw xs))):∃v,σ[i]?=some (some v)/\RepL K H xs v:=by
 obtain⟨s,_,sl,_⟩:=h;obtain⟨v,e1,e2⟩:=sl.get e;exact⟨v,e1,RepL.same s e2⟩
theorem DOk.vd(h:DOk K H₀ H σD σ){i:Nat}{xs:List (Key×D)}(e:σD[i]?=some (some (.vd xs))):∃v,σ[i]?=some (some v)/\RepD K H xs v:=by
 obtain⟨s,_,sl,_⟩:=h;obtain⟨v,e1,e2⟩:=sl.get e;exact⟨v,e1,RepD.same s e2⟩
theorem DOk.exc(h:DOk K H₀ H σD σ){i:Nat}{xs:Str×List (Str×Int)}(e:σD[i]?=some (some (.exc xs))):∃v,σ[i]?=some (some v)/\RepX K H xs v:=by
 obtain⟨s,_,sl,_⟩:=h;obtain⟨v,e1,e2⟩:=sl.get e;exact⟨v,e1,RepX.same s e2⟩
theorem DOk.scr(h:DOk K H₀ H σD σ){i:Nat}{ns:List Int}(e:σD[i]?=some (some (.scr ns))):∃a,σ[i]?=some (some (.ref a))/\SqL K H a (ns.map V.int):=by
 obtain⟨s,_,sl,_⟩:=h;obtain⟨v,e1,a,rfl,e2⟩:=sl.get e;exact⟨a,e1,s.seq e2⟩
theorem DOk.pen(h:DOk K H₀ H σD σ){i:Nat}(e:σD[i]?=some (some .pen)):∃a,σ[i]?=some (some (.ref a))/\H a=some (zbb a):=by
 obtain⟨s,_,sl,_⟩:=h;obtain⟨v,e1,a,rfl,e2⟩:=sl.get e;exact⟨a,e1,e2⟩
theorem DOk.ownL(h:DOk K H₀ H σD σ){i:Nat}{xs:List D}(e:σD[i]?=some (some (.own (.lst xs)))):∃a vs,σ[i]?=some (some (.ref a))/\H a=some (.lst vs)/\Reps K H xs vs/\H₀ a=none:=by
 obtain⟨s,fp,sl,nd,fr⟩:=h;obtain⟨v,e1,f,⟨a,vs,rfl,rfl,e2,r⟩,m⟩:=sl.get e;exact⟨a,vs,e1,e2,r,fr a (m a (by simp))⟩
theorem DOk.ownD(h:DOk K H₀ H σD σ){i:Nat}{xs:List (Key×D)}(e:σD[i]?=some (some (.own (.dct xs)))):∃a vs,σ[i]?=some (some (.ref a))/\H a=some (.dK vs)/\RepKV K H xs vs/\H₀ a=none:=by
 obtain⟨s,fp,sl,nd,fr⟩:=h;obtain⟨v,e1,f,⟨a,vs,rfl,rfl,e2,r⟩,m⟩:=sl.get e;exact⟨a,vs,e1,e2,r,fr a (m a (by simp))⟩
theorem Slots.set{fp f:List Addr}(h:Slots K H₀ H σD σ fp){w:Option W}{v:Option V}(hw:∀{ws:DSt}{vs:St}{g:List Addr},Slots K H₀ H ws vs g->Slots K H₀ H (w::ws) (v::vs) (f++g)):
  ∀(i:Nat),i<σD.length->∃g g',Slots K H₀ H (σD.set i w) (σ.set i v) (g++(f++g'))/\(g++g').Sublist fp:=by
 induction h with
 |nil=>intro i hi;exact absurd hi (Nat.not_lt_zero _)
 |none t ih=>
  intro i hi
  cases i with
  |zero=>exact⟨[],_,hw t,List.Sublist.refl _⟩
  |succ i=>obtain⟨g,g',e,s⟩:=ih i (Nat.lt_of_succ_lt_succ hi);exact⟨g,g',.none e,s⟩
 |val r t ih=>
  intro i hi
  cases i with
  |zero=>exact⟨[],_,hw t,List.Sublist.refl _⟩
  |succ i=>obtain⟨g,g',e,s⟩:=ih i (Nat.lt_of_succ_lt_succ hi);exact⟨g,g',.val r e,s⟩
 |vw r t ih=>
  intro i hi
  cases i with
  |zero=>exact⟨[],_,hw t,List.Sublist.refl _⟩
  |succ i=>obtain⟨g,g',e,s⟩:=ih i (Nat.lt_of_succ_lt_succ hi);exact⟨g,g',.vw r e,s⟩
 |vd r t ih=>
  intro i hi
  cases i with
  |zero=>exact⟨[],_,hw t,List.Sublist.refl _⟩
  |succ i=>obtain⟨g,g',e,s⟩:=ih i (Nat.lt_of_succ_lt_succ hi);exact⟨g,g',.vd r e,s⟩
 |exc r t ih=>
  intro i hi
  cases i with
  |zero=>exact⟨[],_,hw t,List.Sublist.refl _⟩
  |succ i=>obtain⟨g,g',e,s⟩:=ih i (Nat.lt_of_succ_lt_succ hi);exact⟨g,g',.exc r e,s⟩
 |scr r t ih=>
  intro i hi
  cases i with
  |zero=>exact⟨[],_,hw t,List.Sublist.refl _⟩
  |succ i=>obtain⟨g,g',e,s⟩:=ih i (Nat.lt_of_succ_lt_succ hi);exact⟨g,g',.scr r e,s⟩
 |pen r t ih=>
  intro i hi
  cases i with
  |zero=>exact⟨[],_,hw t,List.Sublist.refl _⟩
  |succ i=>obtain⟨g,g',e,s⟩:=ih i (Nat.lt_of_succ_lt_succ hi);exact⟨g,g',.pen r e,s⟩
 |tmp r t ih=>
  intro i hi
  cases i with
  |zero=>exact⟨[],_,hw t,List.Sublist.refl _⟩
  |succ i=>obtain⟨g,g',e,s⟩:=ih i (Nat.lt_of_succ_lt_succ hi);exact⟨g,g',.tmp r e,s⟩
 |@own o v' f' ws vs fp' r t ih=>
  intro i hi
  cases i with
  |zero=>exact⟨[],_,hw t,List.sublist_append_right _ _⟩
  |succ i=>
   obtain⟨g,g',e,s⟩:=ih i (Nat.lt_of_succ_lt_succ hi);refine⟨f'++g,g',?_,?_⟩
   ·rw[List.append_assoc];exact .own r e
   ·rw[List.append_assoc];exact(List.Sublist.refl _).append s
theorem DOk.put(h:DOk K H₀ H σD σ){w:Option W}{v:Option V}(hw:∀{ws:DSt}{vs:St}{g:List Addr},Slots K H₀ H ws vs g->Slots K H₀ H (w::ws) (v::vs) g)(i:Nat):DOk K H₀ H (σD.set i w) (σ.set i v):=by
 obtain⟨s,fp,sl,nd,fr⟩:=h
 by_cases hi:i<σD.length
 ·obtain⟨g,g',e,sb⟩:=sl.set (f:=[]) hw i hi;rw[List.nil_append]at e;exact⟨s,_,e,sb.nodup nd,λa ha=>fr a (sb.subset ha)⟩
 ·rw[List.set_eq_of_length_le (by omega),List.set_eq_of_length_le (by rw[<-sl.length];omega)];exact⟨s,fp,sl,nd,fr⟩
theorem DOk.setV(h:DOk K H₀ H σD σ){d:D}{v:V}(r:Rep K H d v)(i:Nat):DOk K H₀ H (σD.set i (some (.val d))) (σ.set i (some v)):=h.put (.val r) i
theorem DOk.setN(h:DOk K H₀ H σD σ)(v:Option V)(i:Nat):DOk K H₀ H (σD.set i none) (σ.set i v):=h.put (.none) i
theorem DOk.setO{H1:Hp}(h:DOk K H₀ H1 σD σ)(s1:Same H1 H){a:Addr}{vs:List V}{xs:List D}(n:H1 a=none)(e:H a=some (.lst vs))(r:Reps K H xs vs)(i:Nat):DOk K H₀ H (σD.set i (some (.own (.lst xs)))) (σ.set i (some (.ref a))):=by
 obtain⟨s,fp,sl,nd,fr⟩:=id h;have lv:∀b∈fp,b≠a:=λb hb z=>by
  obtain⟨u,e1,_⟩:=sl.live b hb;rw[z,n]at e1;cases e1
 obtain⟨s',fp',sl',_⟩:=id (h.after s1);have sl2:Slots K H₀ H σD σ fp:=sl.keep s1.pers (λh=>h.same s1) λb _ u e=>s1 b u e
 by_cases hi:i<σD.length
 ·obtain⟨g,g',e',sb⟩:=sl2.set (f:=[a]) (w:=some (.own (.lst xs))) (v:=some (.ref a)) (λt=>.own ⟨a,vs,rfl,rfl,e,r⟩ t) i hi;refine⟨s',_,e',?_,λb hb=>?_⟩
  ·have nd2:=sb.nodup nd;rw[List.nodup_append]at nd2 ⊢;refine⟨nd2.1,?_,λx hx y hy=>?_⟩
   ·rw[List.singleton_append,List.nodup_cons];exact⟨λz=>lv a (sb.subset (List.mem_append_right _ z)) rfl,nd2.2.1⟩
   ·rcases List.mem_append.mp hy with z|z
    ·rw[List.mem_singleton.mp z];exact lv x (sb.subset (List.mem_append_left _ hx))
    ·exact nd2.2.2 x hx y z
  ·rcases List.mem_append.mp hb with z|z
   ·exact fr b (sb.subset (List.mem_append_left _ z))
   ·rcases List.mem_append.mp z with z|z
    ·rw[List.mem_singleton.mp z]
     cases q:H₀ a with
     |none=>rfl
     |some u=>rw[s a u q]at n;cases n
    ·exact fr b (sb.subset (List.mem_append_right _ z))
 ·rw[List.set_eq_of_length_le (by omega),List.set_eq_of_length_le (by rw[<-sl2.length];omega)];exact⟨s',fp,sl2,nd,fr⟩
theorem Slots.write{fp:List Addr}(h:Slots K H₀ H σD σ fp)(nd:fp.Nodup){i:Nat}{xs ys:List D}{a:Addr}{vs:List V}(e:σD[i]?=some (some (.own (.lst xs))))(ev:σ[i]?=some (some (.ref a)))(ea:∃zs,H a=some (.lst zs))(r:Reps K H ys vs):
  Slots K H₀ (upd H a (.lst vs)) (clr (σD.set i (some (.own (.lst ys))))) σ fp:=by
 have ps:Pers H (upd H a (.lst vs)):=λb o hb hp=>by
  obtain⟨zs,ea⟩:=ea;rw[zw (λz=>by rw[z,ea]at hb;cases hb;cases hp)];exact hb
 induction h generalizing i with
 |nil=>simp at e
 |none t ih=>
  cases i with
  |zero=>simp at e
  |succ i=>exact .none (ih nd (by simpa using e) (by simpa using ev))
 |val q t ih=>
  cases i with
  |zero=>simp at e
  |succ i=>exact .val (q.mono ps) (ih nd (by simpa using e) (by simpa using ev))
 |vw q t ih=>
  cases i with
  |zero=>simp at e
  |succ i=>exact .vw q (ih nd (by simpa using e) (by simpa using ev))
 |vd q t ih=>
  cases i with
  |zero=>simp at e
  |succ i=>exact .vd q (ih nd (by simpa using e) (by simpa using ev))
 |exc q t ih=>
  cases i with
  |zero=>simp at e
  |succ i=>exact .exc q (ih nd (by simpa using e) (by simpa using ev))
 |scr q t ih=>
  cases i with
  |zero=>simp at e
  |succ i=>exact .scr q (ih nd (by simpa using e) (by simpa using ev))
 |pen q t ih=>
  cases i with
  |zero=>simp at e
  |succ i=>exact .pen (ps _ _ q rfl) (ih nd (by simpa using e) (by simpa using ev))
 |tmp q t ih=>
  cases i with
  |zero=>simp at e
  |succ i=>exact .none (ih nd (by simpa using e) (by simpa using ev))
 |@own o v f ws wvs fp' q t ih=>
  rw[List.nodup_append]at nd
  cases i with
  |zero=>
   simp at e ev;subst e ev;obtain⟨b,zs,eb,rfl,hb,rb⟩:=q
   cases eb;refine .own ⟨a,vs,rfl,rfl,zx,r.mono ps⟩ (t.keepC ps λc hc u hu=>?_);rw[zw (λz=>nd.2.2 a (by simp) c hc z.symm)];exact hu
  |succ i=>
   have e':ws[i]?=some (some (.own (.lst xs))):=by simpa using e
   have ev':wvs[i]?=some (some (.ref a)):=by simpa using ev
   refine .own (q.keep ps λc hc u hu=>?_) (ih nd.2.1 e' ev');obtain⟨v',e1,f',⟨b,zs,rfl,rfl,hb,rb⟩,m⟩:=t.get e';rw[ev']at e1
   cases e1;rw[zw (λz=>nd.2.2 c hc a (m a (by simp)) z)];exact hu
theorem vy{a:Addr}{o o':HO}(e:H a=some o)(p:o.per=false):Pers H (upd H a o'):=λb u hb hp=>by
 rw[zw (λz=>by rw[z,e]at hb;cases hb;rw[p]at hp;cases hp)];exact hb
theorem DOk.write(h:DOk K H₀ H σD σ){i:Nat}{xs ys:List D}{a:Addr}{vs zs:List V}(e:σD[i]?=some (some (.own (.lst xs))))(ev:σ[i]?=some (some (.ref a)))(ea:H a=some (.lst zs))(r:Reps K H ys vs):DOk K H₀ (upd H a (.lst vs)) (clr (σD.set i (some (.own (.lst ys))))) σ:=by
 obtain⟨a',_,e1,_,_,n⟩:=h.ownL e;rw[ev]at e1
 cases e1;obtain⟨s,fp,sl,nd,fr⟩:=h;refine⟨λb o hb=>?_,fp,sl.write nd e ev ⟨_,ea⟩ r,nd,fr⟩;rw[zw (λz=>by rw[z,n]at hb;cases hb)];exact s b o hb
end
section
variable {X:Cx}{pins:List (Addr×Obj)}{σ:St}{H:Hp}{s:Shared}{a:Addr}
theorem Inv.frz(I:Inv X pins σ H s){vs:List V}(h:H a=some (.lst vs)):∃o,Inv X pins σ (upd H a (.frz o (.lst vs))) s:=by
 obtain⟨z,its,n,r,e⟩:=I.hok a _ h;exact⟨_,I.write (h':=s.heap) (t':=s.toks) (x:=a) (e:=a) (by rw[h];exact trivial) (.inl rfl) (λb u _ q=>q) ⟨_,e⟩ ⟨e,z,its,n,r,e⟩⟩
theorem zjz{P:Program}{w:World}{h:Heap}{x y z:Int}{tx ty tz:Tok}{n:Nat}(e:h.get? a=some { cls:=.type "list",data:=.seq #[.int x tx,.int y ty,.int z tz] n }):ObjOk P w H h a (zbb a) :=
 ⟨⟨x,y,z,tx,ty,tz,n,e⟩,⟨_,e⟩,λh1 h2 ⟨x,y,z,tx,ty,tz,n,e⟩ k=>⟨x,y,z,tx,ty,tz,n,k _ e⟩⟩
theorem Inv.toPen(I:Inv X pins σ H s){x y z:Int}(h:H a=some (.lst [.int x,.int y,.int z])):Inv X pins σ (upd H a (zbb a)) s:=by
 obtain⟨zz,its,n,r,e⟩:=I.hok a _ h
 cases r with
 |cons r1 r=>
  cases r with
  |cons r2 r=>
   cases r with
   |cons r3 r=>
    cases r;obtain⟨t1,rfl⟩:=r1;obtain⟨t2,rfl⟩:=r2;obtain⟨t3,rfl⟩:=r3;exact I.write (h':=s.heap) (t':=s.toks) (x:=a) (e:=a) (by rw[h];exact trivial) (.inl rfl) (λb u _ q=>q) ⟨_,e⟩ (zjz e)
end
abbrev DTE:=DSt->(D->Prop)->Prop
abbrev DTF:=DSt->(List D->Prop)->Prop
abbrev DTT:=DSt->(Bool->Prop)->Prop
abbrev DTP:=DSt->(List W->Prop)->Prop
def DEnd(X:Cx)(pins:List (Addr×Obj))(σ:St)(H:Hp)(Q:D->Prop)(u:Value)(s':Shared):Prop:=∃v H' d,Inv X pins σ H' s'/\RelV v u/\Same H H'/\Rep X.K H' d v/\Q d
def zqz(X:Cx)(pins:List (Addr×Obj))(σ:St)(H:Hp)(Q:D->Prop)(u:Value)(s':Shared):Prop:=∃v H' d,Inv X pins σ H' s'/\RelV v u/\Same H H'/\RepT X.K H' d v/\Q d
def zeq(X:Cx)(pins:List (Addr×Obj))(σ:St)(H:Hp)(Q:List D->Prop)(u:Value)(s':Shared):Prop:=∃a H' vs xs,u=.ref a/\Inv X pins σ H' s'/\Same H H'/\H a=none/\H' a=some (.lst vs)/\Reps X.K H' xs vs/\Q xs
structure DE(X:Cx)(e:Expr)(t:DTE):Prop where
 run:∀(pins:List (Addr×Obj)) (s:Shared) (σ:St) (H H₀:Hp) (σD:DSt) (Q:D->Prop),Inv X pins σ H s->DOk X.K H₀ H σD σ->t σD Q->wpAny (model X.prog X.w) X.A (eval e X.env) (DEnd X pins σ H Q) X.xe s
structure DV(X:Cx)(e:Expr)(t:DTE):Prop where
 run:∀(pins:List (Addr×Obj)) (s:Shared) (σ:St) (H H₀:Hp) (σD:DSt) (Q:D->Prop),Inv X pins σ H s->DOk X.K H₀ H σD σ->t σD Q->wpAny (model X.prog X.w) X.A (eval e X.env) (zqz X pins σ H Q) X.xe s
structure DF(X:Cx)(e:Expr)(t:DTF):Prop where
 run:∀(pins:List (Addr×Obj)) (s:Shared) (σ:St) (H H₀:Hp) (σD:DSt) (Q:List D->Prop),Inv X pins σ H s->DOk X.K H₀ H σD σ->t σD Q->wpAny (model X.prog X.w) X.A (eval e X.env) (zeq X pins σ H Q) X.xe s
def zq3(X:Cx)(pins:List (Addr×Obj))(σ:St)(H:Hp)(Q:Bool->Prop)(b:Bool)(s':Shared):Prop:=∃H',Inv X pins σ H' s'/\Same H H'/\Q b
structure DT(X:Cx)(e:Expr)(t:DTT):Prop where
 run:∀(pins:List (Addr×Obj)) (s:Shared) (σ:St) (H H₀:Hp) (σD:DSt) (Q:Bool->Prop),Inv X pins σ H s->DOk X.K H₀ H σD σ->t σD Q->wpAny (model X.prog X.w) X.A (isTrue e X.env (eval e X.env)) (zq3 X pins σ H Q) X.xe s
structure DWt(X:Cx)(e:Expr)(t:DTT):Prop where
 run:∀(whole:Sem Value) (pins:List (Addr×Obj)) (s:Shared) (σ:St) (H H₀:Hp) (σD:DSt) (Q:Bool->Prop),Inv X pins σ H s->DOk X.K H₀ H σD σ->t σD Q->wpAny (model X.prog X.w) X.A (isTrue e X.env whole) (zq3 X pins σ H Q) X.xe s
structure DA(X:Cx)(es:List Expr)(t:DTF):Prop where
 run:∀(pos:Pos) (pins:List (Addr×Obj)) (s:Shared) (σ:St) (H H₀:Hp) (σD:DSt) (Q:List D->Prop),Inv X pins σ H s->DOk X.K H₀ H σD σ->t σD Q ->
  wpAny (model X.prog X.w) X.A (spliced (backTo pos (starEach es X.env))) (λus s'=>∃vs H' ds,Inv X pins σ H' s'/\Vals vs us/\Same H H'/\Reps X.K H' ds vs/\Q ds) X.xe s
inductive RepTs(K:PySem.W.Frag)(H:Hp):List D->List V->Prop
 |nil:RepTs K H [] []
 |cons {d:D}{v:V}{ds:List D}{vs:List V} (r:RepT K H d v) (t:RepTs K H ds vs):RepTs K H (d::ds) (v::vs)
structure DAv(X:Cx)(es:List Expr)(t:DTF):Prop where
 run:∀(pos:Pos) (pins:List (Addr×Obj)) (s:Shared) (σ:St) (H H₀:Hp) (σD:DSt) (Q:List D->Prop),Inv X pins σ H s->DOk X.K H₀ H σD σ->t σD Q ->
  wpAny (model X.prog X.w) X.A (spliced (backTo pos (starEach es X.env))) (λus s'=>∃vs H' ds,Inv X pins σ H' s'/\Vals vs us/\Same H H'/\RepTs X.K H' ds vs/\Q ds) X.xe s
section
variable (K:PySem.W.Frag)
def zu8(H:Hp):W->V->Prop
 |.val d,v=>Rep K H d v
 |.vw xs,v=>RepL K H xs v
 |.vd xs,v=>RepD K H xs v
 |.exc xs,v=>RepX K H xs v
 |.scr ns,v=>∃a,v=.ref a/\SqL K H a (ns.map V.int)
 |.pen,v=>∃a,v=.ref a/\H a=some (zbb a)
 |.tmp _,_=>False
 |.own _,_=>False
inductive RepWs(H:Hp):List W->List V->Prop
 |nil:RepWs H [] []
 |cons {w:W}{v:V}{ws:List W}{vs:List V} (r:zu8 K H w v) (t:RepWs H ws vs):RepWs H (w::ws) (v::vs)
end
theorem RepWs.length{K:PySem.W.Frag}{H:Hp}{ws:List W}{vs:List V}(h:RepWs K H ws vs):ws.length=vs.length:=by
 induction h with
 |nil=>rfl
 |cons _ _ ih=>simp[ih]
structure DPs(X:Cx)(es:List Expr)(t:DTP):Prop where
 run:∀(pos:Pos) (pins:List (Addr×Obj)) (s:Shared) (σ:St) (H H₀:Hp) (σD:DSt) (Q:List W->Prop),Inv X pins σ H s->DOk X.K H₀ H σD σ->t σD Q ->
  wpAny (model X.prog X.w) X.A (spliced (backTo pos (starEach es X.env))) (λus s'=>∃vs H' ws,Inv X pins σ H' s'/\Vals vs us/\Same H H'/\RepWs X.K H' ws vs/\Q ws) X.xe s
section
variable (K:PySem.W.Frag)
def cnE(t:DTE):TE:=λσ H Q=>∃H₀ σD QD,DOk K H₀ H σD σ/\t σD QD/\∀v H' d,Same H H'->Rep K H' d v->QD d->Q v H'
def cnV(t:DTE):TE:=λσ H Q=>∃H₀ σD QD,DOk K H₀ H σD σ/\t σD QD/\∀v H' d,Same H H'->RepT K H' d v->QD d->Q v H'
def cnF(t:DTF):TE:=λσ H Q=>∃H₀ σD QD,DOk K H₀ H σD σ/\t σD QD/\∀a H' vs xs,Same H H'->H a=none->H' a=some (.lst vs)->Reps K H' xs vs->QD xs->Q (.ref a) H'
def cnT(t:DTT):TT:=λσ H Q=>∃H₀ σD QD,DOk K H₀ H σD σ/\t σD QD/\∀b H',Same H H'->QD b->Q b H'
def cnA(t:DTF):TA:=λσ H Q=>∃H₀ σD QD,DOk K H₀ H σD σ/\t σD QD/\∀vs H' ds,Same H H'->Reps K H' ds vs->QD ds->Q vs H'
def zwo(t:DTF):TA:=λσ H Q=>∃H₀ σD QD,DOk K H₀ H σD σ/\t σD QD/\∀vs H' ds,Same H H'->RepTs K H' ds vs->QD ds->Q vs H'
def cnP(t:DTP):TA:=λσ H Q=>∃H₀ σD QD,DOk K H₀ H σD σ/\t σD QD/\∀vs H' ws,Same H H'->RepWs K H' ws vs->QD ws->Q vs H'
end
section
variable {X:Cx}{e:Expr}{es:List Expr}
theorem DE.pe{t:DTE}(h:DE X e t):PE X e (cnE X.K t):=λpins s σ H Q I zq63=>by obtain⟨H₀,σD,QD,ok,q,k⟩:=zq63;exact thn (h.run pins s σ H H₀ σD QD I ok q) λu s' zq50=>by obtain⟨v,H',d,I',r,sm,rp,qd⟩:=zq50;exact⟨v,H',I',r,k v H' d sm rp qd⟩
theorem DV.pe{t:DTE}(h:DV X e t):PE X e (cnV X.K t):=λpins s σ H Q I zq63=>by obtain⟨H₀,σD,QD,ok,q,k⟩:=zq63;exact thn (h.run pins s σ H H₀ σD QD I ok q) λu s' zq50=>by obtain⟨v,H',d,I',r,sm,rp,qd⟩:=zq50;exact⟨v,H',I',r,k v H' d sm rp qd⟩
theorem DF.pe{t:DTF}(h:DF X e t):PE X e (cnF X.K t):=λpins s σ H Q I zq63=>by obtain⟨H₀,σD,QD,ok,q,k⟩:=zq63;exact thn (h.run pins s σ H H₀ σD QD I ok q) λu s' zq50=>by obtain⟨a,H',vs,xs,eu,I',sm,n,e,rp,qd⟩:=zq50;exact⟨.ref a,H',I',eu,k a H' vs xs sm n e rp qd⟩
theorem DT.pt{t:DTT}(h:DT X e t):PT X e (cnT X.K t):=λpins s σ H Q I zq63=>by obtain⟨H₀,σD,QD,ok,q,k⟩:=zq63;exact thn (h.run pins s σ H H₀ σD QD I ok q) λu s' zq50=>by obtain⟨H',I',sm,qd⟩:=zq50;exact⟨H',I',k u H' sm qd⟩
theorem DA.pa{t:DTF}(h:DA X es t):PA X es (cnA X.K t):=λpos pins s σ H Q I zq65=>by obtain⟨H₀,σD,QD,ok,q,k⟩:=zq65;exact thn (h.run pos pins s σ H H₀ σD QD I ok q) λus s' zq60=>by obtain⟨vs,H',ds,I',r,sm,rp,qd⟩:=zq60;exact⟨vs,H',I',r,k vs H' ds sm rp qd⟩
theorem DAv.pa{t:DTF}(h:DAv X es t):PA X es (zwo X.K t):=λpos pins s σ H Q I zq68=>by obtain⟨H₀,σD,QD,ok,q,k⟩:=zq68;exact thn (h.run pos pins s σ H H₀ σD QD I ok q) λus s' zq63=>by obtain⟨vs,H',ds,I',r,sm,rp,qd⟩:=zq63;exact⟨vs,H',I',r,k vs H' ds sm rp qd⟩
theorem DPs.pa{t:DTP}(h:DPs X es t):PA X es (cnP X.K t):=λpos pins s σ H Q I zq67=>by obtain⟨H₀,σD,QD,ok,q,k⟩:=zq67;exact thn (h.run pos pins s σ H H₀ σD QD I ok q) λus s' zq62=>by obtain⟨vs,H',ws,I',r,sm,rp,qd⟩:=zq62;exact⟨vs,H',I',r,k vs H' ws sm rp qd⟩
theorem DE.of{t:DTE}{t':TE}(h:PE X e t')(k:∀σ H H₀ σD QD,DOk X.K H₀ H σD σ->t σD QD->t' σ H (λv H'=>∃d,Same H H'/\Rep X.K H' d v/\QD d)):DE X e t :=
 ⟨λpins s σ H H₀ σD Q I ok q=>thn (h pins s σ H _ I (k σ H H₀ σD Q ok q)) λu s' zq80=>by obtain⟨v,H',I',r,d,sm,rp,qd⟩:=zq80;exact⟨v,H',d,I',r,sm,rp,qd⟩⟩
theorem DV.of{t:DTE}{t':TE}(h:PE X e t')(k:∀σ H H₀ σD QD,DOk X.K H₀ H σD σ->t σD QD->t' σ H (λv H'=>∃d,Same H H'/\RepT X.K H' d v/\QD d)):DV X e t :=
 ⟨λpins s σ H H₀ σD Q I ok q=>thn (h pins s σ H _ I (k σ H H₀ σD Q ok q)) λu s' zq80=>by obtain⟨v,H',I',r,d,sm,rp,qd⟩:=zq80;exact⟨v,H',d,I',r,sm,rp,qd⟩⟩
theorem DF.of{t:DTF}{t':TE}(h:PE X e t')(k:∀σ H H₀ σD QD,DOk X.K H₀ H σD σ->t σD QD->t' σ H (λv H'=>∃a vs xs,v=.ref a/\Same H H'/\H a=none/\H' a=some (.lst vs)/\Reps X.K H' xs vs/\QD xs)):DF X e t :=
 ⟨λpins s σ H H₀ σD Q I ok q=>thn (h pins s σ H _ I (k σ H H₀ σD Q ok q)) λu s' zq80=>by obtain⟨v,H',I',r,a,vs,xs,ev,sm,n,e,rp,qd⟩:=zq80;exact⟨a,H',vs,xs,by subst ev;exact r,I',sm,n,e,rp,qd⟩⟩
theorem DT.of{t:DTT}{t':TT}(h:PT X e t')(k:∀σ H H₀ σD QD,DOk X.K H₀ H σD σ->t σD QD->t' σ H (λb H'=>Same H H'/\QD b)):DT X e t :=
 ⟨λpins s σ H H₀ σD Q I ok q=>thn (h pins s σ H _ I (k σ H H₀ σD Q ok q)) λu s' zq80=>by obtain⟨H',I',sm,qd⟩:=zq80;exact⟨H',I',sm,qd⟩⟩
theorem DE.dv{t:DTE}(h:DE X e t):DV X e t:=⟨λpins s σ H H₀ σD Q I ok q=>thn (h.run pins s σ H H₀ σD Q I ok q) λu s' zq28=>by obtain⟨v,H',d,I',r,sm,rp,qd⟩:=zq28;exact⟨v,H',d,I',r,sm,rp.top,qd⟩⟩
theorem j4{pins:List (Addr×Obj)}{σ:St}{H H':Hp}{s:Shared}{a:Addr}{vs:List V}{xs:List D}(I:Inv X pins σ H' s)(sm:Same H H')(n:H a=none)(e:H' a=some (.lst vs))(r:Reps X.K H' xs vs):
  ∃H'',Inv X pins σ H'' s/\Same H H''/\Rep X.K H'' (.list xs) (.ref a):=by
 obtain⟨o,J⟩:=I.frz e;refine⟨_,J,λb u hb=>?_,.lst zx (r.mono (vy e rfl))⟩;rw[zw (yi hb n)];exact sm b u hb
def dFz(t:DTF):DTE:=λσ Q=>t σ λxs=>Q (.list xs)
theorem DF.de{t:DTF}(h:DF X e t):DE X e (dFz t):=⟨λpins s σ H H₀ σD Q I ok q=>thn (h.run pins s σ H H₀ σD _ I ok q) λu s' zq34=>by
 obtain⟨a,H',vs,xs,eu,I',sm,n,e,rp,qd⟩:=zq34;obtain⟨H'',J,sm',r'⟩:=j4 I' sm n e rp;exact⟨.ref a,H'',.list xs,J,eu,sm',r',qd⟩⟩
def zo8(i:Nat):DTE:=λσ Q=>match σ[i]? with
 |some (some (.val d))=>Q d
 |_=>False
def zo9(i:Nat):DTE:=λσ Q=>match σ[i]? with
 |some (some (.val d))=>Q d
 |some (some (.own (.lst xs)))=>Q (.list xs)
 |some (some (.vw xs))=>Q (.list xs)
 |_=>False
def dC(d:D):DTE:=λ_ Q=>Q d
theorem ya(i:Nat){x:Str}{pos:Pos}(hN:X.N[i]?=some x:=by rfl)(hv:Vis X.env.scope x:=by first|exact Or.inl rfl|exact Or.inr (Or.inl rfl)|exact Or.inr (Or.inr rfl))(hd:(x ==("__debug__" : Str))=false:=by decide)
  (hcd:(x ==("__classdict__" : Str))=false:=by decide):DE X (.Name x pos) (zo8 i):=by
 refine DE.of (kc (i:=i) hN hv hd hcd) λσ H H₀ σD QD ok q=>?_;unfold zo8 at q
 split at q
 ·next d e=>
  obtain⟨v,e1,r⟩:=ok.val e;exact⟨v,e1,d,Same.refl _,r,q⟩
 ·exact q.elim
theorem zd(i:Nat){x:Str}{pos:Pos}(hN:X.N[i]?=some x:=by rfl)(hv:Vis X.env.scope x:=by first|exact Or.inl rfl|exact Or.inr (Or.inl rfl)|exact Or.inr (Or.inr rfl))(hd:(x ==("__debug__" : Str))=false:=by decide)
  (hcd:(x ==("__classdict__" : Str))=false:=by decide):DV X (.Name x pos) (zo9 i):=by
 refine DV.of (kc (i:=i) hN hv hd hcd) λσ H H₀ σD QD ok q=>?_;unfold zo9 at q
 split at q
 ·next d e=>
  obtain⟨v,e1,r⟩:=ok.val e;exact⟨v,e1,d,Same.refl _,r.top,q⟩
 ·next xs e=>
  obtain⟨a,vs,e1,e2,r,_⟩:=ok.ownL e;exact⟨.ref a,e1,.list xs,Same.refl _,.inr ⟨xs,rfl,a,vs,rfl,.inl e2,r⟩,q⟩
 ·next xs e=>
  obtain⟨v,e1,r⟩:=ok.vw e;exact⟨v,e1,.list xs,Same.refl _,.inr ⟨xs,rfl,r⟩,q⟩
 ·exact q.elim
theorem zg{i j pos}:DE X (.Constant (.int i) j pos) (dC (.int i)):=DE.of ww λσ H H₀ σD QD ok q=>⟨.int i,Same.refl _,.int,q⟩
theorem xa{b j pos}:DE X (.Constant (.bool b) j pos) (dC (.bool b)):=DE.of zuh λσ H H₀ σD QD ok q=>⟨.bool b,Same.refl _,.bl,q⟩
theorem zcx{j pos}:DE X (.Constant .none j pos) (dC .none):=DE.of zrs λσ H H₀ σD QD ok q=>⟨.none,Same.refl _,.non,q⟩
theorem zig{x j pos}:DE X (.Constant (.str x) j pos) (dC (.str x)):=DE.of zrt λσ H H₀ σD QD ok q=>⟨.str x,Same.refl _,.str,q⟩
theorem x6{x:Str}{d:D}{v:V}{u:Value}{pos:Pos}(hg:Gl X x)(hm:X.mg x=some u)(r:RelV v u)(rp:∀H,Rep X.K H d v)(hd:(x ==("__debug__" : Str))=false:=by decide):DE X (.Name x pos) (dC d) :=
 DE.of (zor hg hm r hd) λσ H H₀ σD QD ok q=>⟨d,Same.refl _,rp H,q⟩
def zpa:DTF:=λ_ Q=>Q []
def zj0(t:DTE)(r:DTF):DTF:=λσ Q=>t σ λd=>r σ λds=>Q (d::ds)
theorem ye:DA X [] zpa:=⟨λpos pins s σ H H₀ σD Q I ok q=>thn (ke pos pins s σ H (λvs H'=>vs = []/\H'=H) I ⟨rfl,rfl⟩) λus s' zq47=>by obtain⟨vs,H',I',r,e1,e2⟩:=zq47;subst e1 e2;exact⟨[],H',[],I',r,Same.refl _,.nil,q⟩⟩
theorem zk{t:DTE}{r:DTF}(ha:DE X e t)(hr:DA X es r)(hs:starEach (e::es) X.env=(false,eval e X.env)::starEach es X.env:=by rfl):DA X (e::es) (zj0 t r):=⟨λpos pins s σ H H₀ σD Q I ok q=>by
 refine thn (wm ha.pe hr.pa hs pos pins s σ H (λvs H'=>∃ds,Same H H'/\Reps X.K H' ds vs/\Q ds) I ?_) λus s' zq19=>by obtain⟨vs,H',I',r,ds,sm,rp,qd⟩:=zq19;exact⟨vs,H',ds,I',r,sm,rp,qd⟩
 exact⟨H₀,σD,_,ok,q,λv H1 d s1 r1 q1=>⟨H₀,σD,_,ok.after s1,q1,λvs H2 ds s2 r2 q2=>⟨d::ds,s1.trans s2,.cons (r1.same s2) r2,q2⟩⟩⟩⟩
theorem z7:DAv X [] zpa:=⟨λpos pins s σ H H₀ σD Q I ok q=>thn (ke pos pins s σ H (λvs H'=>vs = []/\H'=H) I ⟨rfl,rfl⟩) λus s' zq49=>by obtain⟨vs,H',I',r,e1,e2⟩:=zq49;subst e1 e2;exact⟨[],H',[],I',r,Same.refl _,.nil,q⟩⟩
theorem zn{t:DTE}{r:DTF}(ha:DV X e t)(hr:DAv X es r)(hs:starEach (e::es) X.env=(false,eval e X.env)::starEach es X.env:=by rfl):DAv X (e::es) (zj0 t r):=⟨λpos pins s σ H H₀ σD Q I ok q=>by
 refine thn (wm ha.pe hr.pa hs pos pins s σ H (λvs H'=>∃ds,Same H H'/\RepTs X.K H' ds vs/\Q ds) I ?_) λus s' zq20=>by obtain⟨vs,H',I',r,ds,sm,rp,qd⟩:=zq20;exact⟨vs,H',ds,I',r,sm,rp,qd⟩
 exact⟨H₀,σD,_,ok,q,λv H1 d s1 r1 q1=>⟨H₀,σD,_,ok.after s1,q1,λvs H2 ds s2 r2 q2=>⟨d::ds,s1.trans s2,.cons (r1.same s2) r2,q2⟩⟩⟩⟩
def zmp:DTP:=λ_ Q=>Q []
def zmq(t:DTE)(r:DTP):DTP:=λσ Q=>t σ λd=>r σ λws=>Q (.val d::ws)
def zpb(i:Nat)(r:DTP):DTP:=λσ Q=>match σ[i]? with
 |some (some (.own (.lst xs)))=>r σ λws=>Q (.vw xs::ws)
 |some (some (.vw xs))=>r σ λws=>Q (.vw xs::ws)
 |some (some (.scr ns))=>r σ λws=>Q (.scr ns::ws)
 |some (some (.val d))=>r σ λws=>Q (.val d::ws)
 |some (some .pen)=>r σ λws=>Q (.pen::ws)
 |_=>False
theorem zl:DPs X [] zmp:=⟨λpos pins s σ H H₀ σD Q I ok q=>thn (ke pos pins s σ H (λvs H'=>vs = []/\H'=H) I ⟨rfl,rfl⟩) λus s' zq49=>by obtain⟨vs,H',I',r,e1,e2⟩:=zq49;subst e1 e2;exact⟨[],H',[],I',r,Same.refl _,.nil,q⟩⟩
theorem yb{t:DTE}{r:DTP}(ha:DE X e t)(hr:DPs X es r)(hs:starEach (e::es) X.env=(false,eval e X.env)::starEach es X.env:=by rfl):DPs X (e::es) (zmq t r):=⟨λpos pins s σ H H₀ σD Q I ok q=>by
 refine thn (wm ha.pe hr.pa hs pos pins s σ H (λvs H'=>∃ws,Same H H'/\RepWs X.K H' ws vs/\Q ws) I ?_) λus s' zq20=>by obtain⟨vs,H',I',r,ds,sm,rp,qd⟩:=zq20;exact⟨vs,H',ds,I',r,sm,rp,qd⟩
 exact⟨H₀,σD,_,ok,q,λv H1 d s1 r1 q1=>⟨H₀,σD,_,ok.after s1,q1,λvs H2 ds s2 r2 q2=>⟨.val d::ds,s1.trans s2,.cons (r1.same s2) r2,q2⟩⟩⟩⟩
theorem zm(i:Nat){x:Str}{pos:Pos}{r:DTP}(hr:DPs X es r)(hN:X.N[i]?=some x:=by rfl)(hv:Vis X.env.scope x:=by first|exact Or.inl rfl|exact Or.inr (Or.inl rfl)|exact Or.inr (Or.inr rfl))(hd:(x ==("__debug__" : Str))=false:=by decide)
  (hcd:(x ==("__classdict__" : Str))=false:=by decide) (hs:starEach (.Name x pos::es) X.env=(false,eval (.Name x pos) X.env)::starEach es X.env:=by rfl):DPs X (.Name x pos::es) (zpb i r):=⟨λpos' pins s σ H H₀ σD Q I ok q=>by
 refine thn (wm (kc (i:=i) hN hv hd hcd) hr.pa hs pos' pins s σ H (λvs H'=>∃ws,Same H H'/\RepWs X.K H' ws vs/\Q ws) I ?_) λus s' zq46=>by obtain⟨vs,H',I',r,ds,sm,rp,qd⟩:=zq46;exact⟨vs,H',ds,I',r,sm,rp,qd⟩
 unfold zpb at q
 split at q
 ·next xs e=>
  obtain⟨a,vs,e1,e2,r,_⟩:=ok.ownL e;exact⟨.ref a,e1,H₀,σD,_,ok,q,λws H2 ds s2 r2 q2=>⟨.vw xs::ds,s2,.cons (RepL.same s2 ⟨a,vs,rfl,.inl e2,r⟩) r2,q2⟩⟩
 ·next xs e=>
  obtain⟨v,e1,r⟩:=ok.vw e;exact⟨v,e1,H₀,σD,_,ok,q,λws H2 ds s2 r2 q2=>⟨.vw xs::ds,s2,.cons (RepL.same s2 r) r2,q2⟩⟩
 ·next ns e=>
  obtain⟨a,e1,r⟩:=ok.scr e;exact⟨.ref a,e1,H₀,σD,_,ok,q,λws H2 ds s2 r2 q2=>⟨.scr ns::ds,s2,.cons ⟨a,rfl,s2.seq r⟩ r2,q2⟩⟩
 ·next d e=>
  obtain⟨v,e1,r⟩:=ok.val e;exact⟨v,e1,H₀,σD,_,ok,q,λws H2 ds s2 r2 q2=>⟨.val d::ds,s2,.cons (r.same s2) r2,q2⟩⟩
 ·next e=>
  obtain⟨a,e1,r⟩:=ok.pen e;exact⟨.ref a,e1,H₀,σD,_,ok,q,λws H2 ds s2 r2 q2=>⟨.pen::ds,s2,.cons ⟨a,rfl,s2 _ _ r⟩ r2,q2⟩⟩
 ·exact q.elim⟩
def zsk(t:DTF):DTE:=λσ Q=>t σ λds=>ds.length<=sizeLine/\Q (.tuple ds)
def zsl(t:DTF):DTF:=λσ Q=>t σ λds=>ds.length<=sizeLine/\Q ds
theorem xj{x1 pos}{t:DTF}(h:DA X es t):DE X (.Tuple es x1 pos) (zsk t) :=
 DE.of (zsa h.pa) λσ H H₀ σD QD ok q=>⟨H₀,σD,_,ok,q,λvs H1 ds s1 r1 q1=>⟨by rw[<-r1.length];exact q1.1,λp hp=>⟨.tuple ds,s1.trans (yk hp _),.tup (SqT.of zx) (r1.same (yk hp _)),q1.2⟩⟩⟩
theorem vc{pos}{t:DTF}(h:DA X es t):DF X (.List es pos) (zsl t) :=
 DF.of (zsb h.pa) λσ H H₀ σD QD ok q=>⟨H₀,σD,_,ok,q,λvs H1 ds s1 r1 q1=>⟨by rw[<-r1.length];exact q1.1,λp hp=>⟨p,vs,ds,rfl,s1.trans (yk hp _),s1.free hp,zx,r1.same (yk hp _),q1.2⟩⟩⟩
variable {a b:Expr}{rest:List Expr}{pos:Pos}
def onB(Q:Bool->Prop):D->Prop
 |.bool b=>Q b
 |_=>False
def dTB(t:DTE):DTT:=λσ Q=>t σ (onB Q)
def zsm(t u:DTT):DTT:=λσ Q=>t σ λc=>if c=true then u σ Q else Q false
def dOr(t u:DTT):DTT:=λσ Q=>t σ λc=>if c=true then Q true else u σ Q
def zsn(t:DTT):DTT:=λσ Q=>t σ λc=>Q (!c)
theorem DWt.dt{t:DTT}(h:DWt X e t):DT X e t:=⟨h.run _⟩
theorem zaj{t:DTT}(ha:DT X a t):DWt X (.BoolOp .And [a] pos) t:=⟨λwh pins s σ H H₀ σD Q I ok q=>by
 refine isTrue_and (thn (ha.run pins s σ H H₀ σD Q I ok q) λc s1 e=>?_)
 cases c with
 |true=>exact isTrue_and_nil e
 |false=>exact e⟩
theorem wk{t:DTT}(ha:DT X a t):DWt X (.BoolOp .Or [a] pos) t:=⟨λwh pins s σ H H₀ σD Q I ok q=>by
 refine isTrue_or (thn (ha.run pins s σ H H₀ σD Q I ok q) λc s1 e=>?_)
 cases c with
 |false=>exact isTrue_or_nil e
 |true=>exact e⟩
theorem zcy{t u:DTT}(ha:DT X a t)(hb:DWt X (.BoolOp .And (b::rest) pos) u):DWt X (.BoolOp .And (a::b::rest) pos) (zsm t u):=⟨λwh pins s σ H H₀ σD Q I ok q=>by
 refine isTrue_and (thn (ha.run pins s σ H H₀ σD _ I ok q) λc s1 ⟨H1,I1,sm,q1⟩=>?_)
 cases c with
 |true=>
  rw[if_pos rfl]at q1;exact thn (hb.run wh pins s1 σ H1 H₀ σD Q I1 (ok.after sm) q1) λ_ _ zq67=>by obtain⟨H2,I2,s2,q2⟩:=zq67;exact⟨H2,I2,sm.trans s2,q2⟩
 |false=>rw[if_neg Bool.false_ne_true]at q1;exact⟨H1,I1,sm,q1⟩⟩
theorem w4{t u:DTT}(ha:DT X a t)(hb:DWt X (.BoolOp .Or (b::rest) pos) u):DWt X (.BoolOp .Or (a::b::rest) pos) (dOr t u):=⟨λwh pins s σ H H₀ σD Q I ok q=>by
 refine isTrue_or (thn (ha.run pins s σ H H₀ σD _ I ok q) λc s1 ⟨H1,I1,sm,q1⟩=>?_)
 cases c with
 |false=>
  rw[if_neg Bool.false_ne_true]at q1;exact thn (hb.run wh pins s1 σ H1 H₀ σD Q I1 (ok.after sm) q1) λ_ _ zq67=>by obtain⟨H2,I2,s2,q2⟩:=zq67;exact⟨H2,I2,sm.trans s2,q2⟩
 |true=>rw[if_pos rfl]at q1;exact⟨H1,I1,sm,q1⟩⟩
theorem xk{t:DTT}(ha:DT X a t):DT X (.UnaryOp .Not a pos) (zsn t):=⟨λpins s σ H H₀ σD Q I ok q=>isTrue_not (ha.run pins s σ H H₀ σD (λc=>Q (!c)) I ok q)⟩
def zmr:D->Bool
 |.none=>false
 |.bool b=>b
 |.int i=>i != 0
 |.str x=>(x.length:Int) != 0
 |.tuple xs=>!xs.isEmpty
 |.list xs=>!xs.isEmpty
 |.dict kvs=>!kvs.isEmpty
def zso(t:DTE):DTT:=λσ Q=>t σ λd=>match d with
 |.str x=>x.length<=sizeLine/\Q (zmr (.str x))
 |.dict _=>False
 |d=>Q (zmr d)
theorem zih{K:PySem.W.Frag}{H:Hp}{ds:List D}{vs:List V}(r:Reps K H ds vs):(!vs.isEmpty) = !ds.isEmpty:=by cases r <;> rfl
theorem jm{K:PySem.W.Frag}{H:Hp}{d:D}{v:V}(r:RepT K H d v)(h:match d with|.str x=>x.length<=sizeLine|.dict _=>False|_=>True):zr7 K v H (zmr d):=by
 rcases r with r |⟨xs,rfl,a,vs,rfl,e,r⟩
 ·cases r with
  |non=>rfl
  |bl=>rfl
  |int=>rfl
  |str=>exact⟨h,rfl⟩
  |tup q r=>exact .inr (.inl ⟨_,q,(zih r).symm⟩)
  |lst q r=>exact .inl ⟨_,.inl (.inr ⟨_,q⟩),(zih r).symm⟩
  |dic q r=>exact h.elim
 ·exact .inl ⟨vs,.inl e,(zih r).symm⟩
theorem y0{t:DTE}(h:DV X e t)(he:∀whole,isTrue e X.env whole=(do let v <-whole;standAt e.pos;holding [v] (truthy v)):=by intro _;rfl):DT X e (zso t) :=
 DT.of (zme h.pe he) λσ H H₀ σD QD ok q=>⟨H₀,σD,_,ok,q,λv H1 d s1 r1 q1=>by
  cases d with
  |str x=>exact⟨_,jm r1 q1.1,s1,q1.2⟩
  |dict _=>exact q1.elim
  |none=>exact⟨_,jm r1 trivial,s1,q1⟩
  |bool _=>exact⟨_,jm r1 trivial,s1,q1⟩
  |int _=>exact⟨_,jm r1 trivial,s1,q1⟩
  |tuple _=>exact⟨_,jm r1 trivial,s1,q1⟩
  |list _=>exact⟨_,jm r1 trivial,s1,q1⟩⟩
def zms(t u:DTE):DTE:=λσ Q=>t σ λd=>match d with
 |.bool c=>if c=true then u σ Q else Q (.bool false)
 |_=>False
theorem zbc{op}{t:DTE}(h:DE X a t):DE X (.BoolOp op [a] pos) t:=⟨λpins s σ H H₀ σD Q I ok q=>BoolOp_one (h.run pins s σ H H₀ σD Q I ok q)⟩
theorem DEnd.back{pins:List (Addr×Obj)}{σ:St}{H H1:Hp}{Q:D->Prop}{u:Value}{s':Shared}(s1:Same H H1)(h:DEnd X pins σ H1 Q u s'):DEnd X pins σ H Q u s':=let ⟨v,H',d,I',r,sm,rp,qd⟩:=h;⟨v,H',d,I',r,s1.trans sm,rp,qd⟩
theorem j5{t u:DTE}(ha:DE X a t)(hb:DE X (.BoolOp .And (b::rest) pos) u):DE X (.BoolOp .And (a::b::rest) pos) (zms t u):=⟨λpins s σ H H₀ σD Q I ok q=>by
 refine BoolOp_and (thn (ha.run pins s σ H H₀ σD _ I ok q) λv s1 ⟨x,H1,d,I1,r1,sm,rp,q1⟩=>?_)
 cases d with
 |bool c=>
  cases rp
  cases r1;refine wpAny_truthy_bool ?_
  cases c with
  |true=>exact thn (hb.run pins s1 σ H1 H₀ σD Q I1 (ok.after sm) (by simpa using q1)) λ_ _ h=>h.back sm
  |false=>exact⟨.bl false,H1,.bool false,I1,rfl,sm,.bl,by simpa using q1⟩
 |_=>exact q1.elim⟩
end
section
variable {X:Cx}{pins:List (Addr×Obj)}{σ:St}{H:Hp}{s:Shared}
mutual
theorem Rep.reads(I:Inv X pins σ H s):∀{d:D}{v:V}{u:Value},Rep X.K H d v->RelV v u->d.canLay0=true->∃as,Reads s.heap u d as
 |_,_,_,.non,r,_=>by cases r;exact⟨_,.none⟩
 |_,_,_,.bl,r,_=>by cases r;exact⟨_,.bool _⟩
 |_,_,_,.int,r,_=>by obtain⟨t,rfl⟩:=r;exact⟨_,.int _ _⟩
 |_,_,_,.str,r,_=>by obtain⟨t,rfl⟩:=r;exact⟨_,.str _ _⟩
 |_,_,_,.tup h q,r,c=>by
  cases r;obtain⟨its,rv,⟨o,e1,e2,n,e3⟩,_⟩:=I.tuple h;obtain⟨as,ra⟩:=Reps.reads I q rv (by simpa[PyData.canLay0]using c);exact⟨_,.tuple e1 e2 e3 (by simpa using ra)⟩
 |_,_,_,.lst h q,r,c=>by
  cases r;obtain⟨_,z,its,n,rv,e⟩:=I.hok _ _ h;obtain⟨as,ra⟩:=Reps.reads I q rv (by simpa[PyData.canLay0]using c);exact⟨_,.list e rfl rfl (by simpa using ra)⟩
 |_,_,_,.dic h q,r,c=>by simp[PyData.canLay0]at c
theorem Reps.reads(I:Inv X pins σ H s):∀{ds:List D}{vs:List V}{us:List Value},Reps X.K H ds vs->Vals vs us->PyData.canLayAll0 ds=true->∃as,ReadsAll s.heap us ds as
 |_,_,_,.nil,r,_=>by cases r;exact⟨_,.nil⟩
 |_,_,_,.cons q t,r,c=>by
  cases r with
  |cons r1 r2=>
   simp only[PyData.canLayAll0,Bool.and_eq_true]at c;obtain⟨as,ra⟩:=Rep.reads I q r1 c.1;obtain⟨bs,rb⟩:=Reps.reads I t r2 c.2;exact⟨_,.cons ra rb⟩
end
theorem RepT.reads(I:Inv X pins σ H s){d:D}{v:V}{u:Value}(h:RepT X.K H d v)(r:RelV v u)(c:d.canLay0=true):∃as,Reads s.heap u d as:=by
 rcases h with h |⟨xs,rfl,a,vs,rfl,e,q⟩
 ·exact h.reads I r c
 ·cases r;obtain⟨z,its,n,rv,e⟩:=e.ok I.hok;obtain⟨as,ra⟩:=Reps.reads I q rv (by simpa[PyData.canLay0]using c);exact⟨_,.list e rfl rfl (by simpa using ra)⟩
end
def Lay(d:D):Prop:=SeqAt.shaped d=true
theorem Lay.can{d:D}(h:Lay d):d.canLay0=true:=by unfold Lay SeqAt.shaped at h;rw[Bool.and_eq_true]at h;exact h.1
theorem Lay.deep{d:D}(h:Lay d):d.depth<=64:=by unfold Lay SeqAt.shaped at h;rw[Bool.and_eq_true]at h;exact of_decide_eq_true h.2
abbrev DOp:=D->D->(D->Prop)->Prop
structure OpD(X:Cx)(f:Value->Value->Sem Value)(g:DOp):Prop where
 run:∀(pins:List (Addr×Obj)) (s:Shared) (σ:St) (H:Hp) (x y:V) (v u:Value) (a b:D) (Q:D->Prop),Inv X pins σ H s->RelV x v->RelV y u->RepT X.K H a x->RepT X.K H b y->g a b Q->wpAny (model X.prog X.w) X.A (f v u) (DEnd X pins σ H Q) X.xe s
structure OpF(X:Cx)(f:Value->Value->Sem Value)(g:D->D->(List D->Prop)->Prop):Prop where
 run:∀(pins:List (Addr×Obj)) (s:Shared) (σ:St) (H:Hp) (x y:V) (v u:Value) (a b:D) (Q:List D->Prop),Inv X pins σ H s->RelV x v->RelV y u->RepT X.K H a x->RepT X.K H b y->g a b Q->wpAny (model X.prog X.w) X.A (f v u) (zeq X pins σ H Q) X.xe s
def dOp(g:DOp)(ta tb:DTE):DTE:=λσ Q=>ta σ λa=>tb σ λb=>g a b Q
section
variable {X:Cx}{a b c:Expr}{ta tb tc:DTE}{pos:Pos}
theorem OpD.of{f:Value->Value->Sem Value}{r:R2}{g:DOp}(h:OpR X f r)(k:∀x y H a b Q,RepT X.K H a x->RepT X.K H b y->g a b Q->r x y H (λv H'=>∃d,Same H H'/\Rep X.K H' d v/\Q d)):OpD X f g :=
 ⟨λpins s σ H x y v u a b Q I rx ry ra rb q=>thn (h pins s σ H x y v u _ I rx ry (k x y H a b Q ra rb q)) λw s' zq15=>by obtain⟨z,H',I',rz,d,sm,rp,qd⟩:=zq15;exact⟨z,H',d,I',rz,sm,rp,qd⟩⟩
theorem OpF.of{f:Value->Value->Sem Value}{r:R2}{g:D->D->(List D->Prop)->Prop}(h:OpR X f r)(k:∀x y H a b Q,RepT X.K H a x->RepT X.K H b y->g a b Q->r x y H (λv H'=>∃p vs xs,v=.ref p/\Same H H'/\H p=none/\H' p=some (.lst vs)/\Reps X.K H' xs vs/\Q xs)):OpF X f g :=
 ⟨λpins s σ H x y v u a b Q I rx ry ra rb q=>thn (h pins s σ H x y v u _ I rx ry (k x y H a b Q ra rb q)) λw s' zq15=>by obtain⟨z,H',I',rz,p,vs,xs,ez,sm,n,e,rp,qd⟩:=zq15;exact⟨p,H',vs,xs,by subst ez;exact rz,I',sm,n,e,rp,qd⟩⟩
theorem OpF.opD{f:Value->Value->Sem Value}{g:D->D->(List D->Prop)->Prop}(h:OpF X f g):OpD X f (λa b Q=>g a b λxs=>Q (.list xs)) :=
 ⟨λpins s σ H x y v u a b Q I rx ry ra rb q=>thn (h.run pins s σ H x y v u a b _ I rx ry ra rb q) λw s' zq7=>by
  obtain⟨p,H',vs,xs,ew,I',sm,n,e,rp,qd⟩:=zq7;obtain⟨H'',J,sm',r'⟩:=j4 I' sm n e rp;exact⟨.ref p,H'',.list xs,J,ew,sm',r',qd⟩⟩
theorem zu9{ta tb:DTE}(ha:DV X a ta)(hb:DV X b tb){pins:List (Addr×Obj)}{s:Shared}{σ:St}{H H₀:Hp}{σD:DSt}{R:D->D->Prop}(I:Inv X pins σ H s)(ok:DOk X.K H₀ H σD σ)(h:ta σD λx=>tb σD λy=>R x y)
  {α:Type}{Q:α->Shared->Prop}{f:Value->Value->Sem α}
  (hf:∀v u s2 x y H2 d e,Inv X pins σ H2 s2->RelV x v->RelV y u->Same H H2->RepT X.K H2 d x->RepT X.K H2 e y->R d e->wpAny (model X.prog X.w) X.A (f v u) Q X.xe s2) :
  wpAny (model X.prog X.w) X.A (eval a X.env) (λv s₁=>wpAny (model X.prog X.w) X.A (eval b X.env) (λu s₂=>wpAny (model X.prog X.w) X.A (f v u) Q X.xe s₂) X.xe s₁) X.xe s:=by
 refine thn (ha.run pins s σ H H₀ σD _ I ok h) λv s1 ⟨x,H1,d,I1,r1,sm1,p1,q1⟩=>?_;refine thn (hb.run pins s1 σ H1 H₀ σD _ I1 (ok.after sm1) q1) λu s2 ⟨y,H2,e,I2,r2,sm2,p2,q2⟩=>?_;exact hf v u s2 x y H2 d e I2 r1 r2 (sm1.trans sm2) (p1.same sm2) p2 q2
theorem yg{op:Operator}{g:DOp}(ho:OpD X (binaryOp op) g)(ha:DV X a ta)(hb:DV X b tb):DE X (.BinOp a op b pos) (dOp g ta tb) :=
 ⟨λpins s σ H H₀ σD Q I ok q=>wpAny_BinOp (zu9 ha hb I ok q λv u s2 x y H2 d e I2 rx ry sm rd re qd=>thn (ho.run pins s2 σ H2 x y v u d e Q I2 rx ry rd re qd) λ_ _ z=>z.back sm)⟩
theorem ve{op:CmpOp}{g:DOp}(ho:OpD X (compareOp op) g)(ha:DV X a ta)(hb:DV X b tb)(hm:behindInMarks op b=false):DE X (.Compare a [op] [b] pos) (dOp g ta tb) :=
 ⟨λpins s σ H H₀ σD Q I ok q=>wpAny_Compare1 (zu9 ha hb I ok q λv u s2 x y H2 d e I2 rx ry sm rd re qd=>thn (ho.run pins s2 σ H2 x y v u d e Q I2 rx ry rd re qd) λ_ _ z=>z.back sm) hm⟩
theorem yc{op:CmpOp}{g:DOp}(ho:OpD X (compareOp op) g)(ha:DV X a ta)(hb:DV X b tb)(hm:behindInMarks op b=false):DT X (.Compare a [op] [b] pos) (dTB (dOp g ta tb)) :=
 ⟨λpins s σ H H₀ σD Q I ok q=>by
  refine wpAny_isTrue_Compare1 (thn (ha.run pins s σ H H₀ σD _ I ok q) λv s1 ⟨x,H1,d,I1,r1,sm1,p1,q1⟩=>thn (hb.run pins s1 σ H1 H₀ σD _ I1 (ok.after sm1) q1) λu s2 ⟨y,H2,e,I2,r2,sm2,p2,q2⟩=>
   thn (ho.run pins s2 σ H2 x y v u d e _ I2 r1 r2 (p1.same sm2) p2 q2) λk s3 ⟨z,H3,dz,I3,r3,sm3,p3,q3⟩=>?_) hm
  cases dz with
  |bool k=>
   cases p3
   cases r3;exact wpAny_truthy_bool ⟨H3,I3,(sm1.trans sm2).trans sm3,q3⟩
  |_=>exact q3.elim⟩
def zfe(g g':DOp)(ta tb tc:DTE):DTE:=λσ Q=>ta σ λa=>tb σ λb=>g a b λz=>match z with
 |.bool k=>if k=true then tc σ λc=>g' b c Q else Q (.bool false)
 |_=>False
theorem zgw{op op':CmpOp}{g g':DOp}(ho:OpD X (compareOp op) g)(ho':OpD X (compareOp op') g')(ha:DV X a ta)(hb:DV X b tb)(hc:DV X c tc)
  (hm:lastMarks [op,op'] [b,c]=false:=by with_unfolding_all rfl):DE X (.Compare a [op,op'] [b,c] pos) (zfe g g' ta tb tc):=⟨λpins s σ H H₀ σD Q I ok q=>by
 refine Compare_chain (thn (ha.run pins s σ H H₀ σD _ I ok q) λv s1 ⟨x,H1,d,I1,r1,sm1,p1,q1⟩=>chain_link (thn (hb.run pins s1 σ H1 H₀ σD _ I1 (ok.after sm1) q1) λu s2 ⟨y,H2,e,I2,r2,sm2,p2,q2⟩=>
  thn (ho.run pins s2 σ H2 x y v u d e _ I2 r1 r2 (p1.same sm2) p2 q2) λk s3 ⟨z,H3,dz,I3,r3,sm3,p3,q3⟩=>?_)) hm
 cases dz with
 |bool k=>
  cases p3
  cases r3;refine wpAny_truthy_bool ?_
  cases k with
  |false=>exact ite_ff ⟨.bl false,H3,.bool false,I3,rfl,(sm1.trans sm2).trans sm3,.bl,by simpa using q3⟩
  |true=>
   refine ite_tt (chain_last (thn (hc.run pins s3 σ H3 H₀ σD (λc=>g' e c Q) I3 (ok.after ((sm1.trans sm2).trans sm3)) (by simpa using q3)) λw' s4 ⟨z',H4,f,I4,r4,sm4,p4,q4⟩=>?_));exact thn (ho'.run pins s4 σ H4 y z' u w' e f Q I4 r2 r4 ((p2.same sm3).same sm4) p4 q4) λ_ _ z=>z.back (((sm1.trans sm2).trans sm3).trans sm4)
 |_=>exact q3.elim⟩
theorem zmt{op op':CmpOp}{g g':DOp}(ho:OpD X (compareOp op) g)(ho':OpD X (compareOp op') g')(ha:DV X a ta)(hb:DV X b tb)(hc:DV X c tc)
  (hm:lastMarks [op,op'] [b,c]=false:=by with_unfolding_all rfl):DT X (.Compare a [op,op'] [b,c] pos) (dTB (zfe g g' ta tb tc)):=⟨λpins s σ H H₀ σD Q I ok q=>by
 refine isTrue_chain (thn (ha.run pins s σ H H₀ σD _ I ok q) λv s1 ⟨x,H1,d,I1,r1,sm1,p1,q1⟩=>test_link (thn (hb.run pins s1 σ H1 H₀ σD _ I1 (ok.after sm1) q1) λu s2 ⟨y,H2,e,I2,r2,sm2,p2,q2⟩=>
  thn (ho.run pins s2 σ H2 x y v u d e _ I2 r1 r2 (p1.same sm2) p2 q2) λk s3 ⟨z,H3,dz,I3,r3,sm3,p3,q3⟩=>?_)) hm
 cases dz with
 |bool k=>
  cases p3
  cases r3;refine wpAny_truthy_bool ?_
  cases k with
  |false=>exact ite_ff ⟨H3,I3,(sm1.trans sm2).trans sm3,by simpa[onB]using q3⟩
  |true=>
   refine ite_tt (test_last (thn (hc.run pins s3 σ H3 H₀ σD (λc=>g' e c (onB Q)) I3 (ok.after ((sm1.trans sm2).trans sm3)) (by simpa using q3)) λw' s4 ⟨z',H4,f,I4,r4,sm4,p4,q4⟩=>?_));refine thn (ho'.run pins s4 σ H4 y z' u w' e f _ I4 r2 r4 ((p2.same sm3).same sm4) p4 q4) λk' s5 ⟨z2,H5,dz2,I5,r5,sm5,p5,q5⟩=>?_
   cases dz2 with
   |bool k2=>
    cases p5
    cases r5;exact wpAny_truthy_bool ⟨H5,I5,(((sm1.trans sm2).trans sm3).trans sm4).trans sm5,q5⟩
   |_=>exact q5.elim
 |_=>exact q3.elim⟩
def dUn(g:D->(D->Prop)->Prop)(ta:DTE):DTE:=λσ Q=>ta σ λa=>g a Q
def zsp:D->(D->Prop)->Prop
 |.int i,Q=>Q (.int (-i))
 |_,_=>False
theorem wn(ha:DE X a ta):DE X (.UnaryOp .USub a pos) (dUn zsp ta) :=
 DE.of (zup zr4 ha.pe) λσ H H₀ σD QD ok q=>⟨H₀,σD,_,ok,q,λv H1 d s1 r1 q1=>by
  cases d with
  |int i=>cases r1;exact⟨i,rfl,.int (-i),s1,.int,q1⟩
  |_=>exact q1.elim⟩
def zsq:D->(D->Prop)->Prop
 |.bool b,Q=>Q (.bool (!b))
 |_,_=>False
theorem zsr(ha:DE X a ta):DE X (.UnaryOp .Not a pos) (dUn zsq ta) :=
 DE.of (zrv ha.pe) λσ H H₀ σD QD ok q=>⟨H₀,σD,_,ok,q,λv H1 d s1 r1 q1=>by
  cases d with
  |bool i=>cases r1;exact⟨i,rfl,.bool (!i),s1,.bl,q1⟩
  |_=>exact q1.elim⟩
theorem RepT.int{K:PySem.W.Frag}{H:Hp}{i:Int}{v:V}(h:RepT K H (.int i) v):v=.int i:=by
 rcases h with h |⟨_,e,_⟩
 ·cases h;rfl
 ·cases e
theorem RepT.str{K:PySem.W.Frag}{H:Hp}{i:Str}{v:V}(h:RepT K H (.str i) v):v=.str i:=by
 rcases h with h |⟨_,e,_⟩
 ·cases h;rfl
 ·cases e
theorem RepT.bool{K:PySem.W.Frag}{H:Hp}{i:Bool}{v:V}(h:RepT K H (.bool i) v):v=.bl i:=by
 rcases h with h |⟨_,e,_⟩
 ·cases h;rfl
 ·cases e
theorem RepT.none{K:PySem.W.Frag}{H:Hp}{v:V}(h:RepT K H .none v):v=.non:=by
 rcases h with h |⟨_,e,_⟩
 ·cases h;rfl
 ·cases e
theorem RepT.tuple{K:PySem.W.Frag}{H:Hp}{xs:List D}{v:V}(h:RepT K H (.tuple xs) v):∃a vs,v=.ref a/\SqT K H a vs/\Reps K H xs vs:=by
 rcases h with h |⟨_,e,_⟩
 ·cases h with
  |tup h r=>exact⟨_,_,rfl,h,r⟩
 ·cases e
def gII(C:Int->Int->Prop)(f:Int->Int->D):DOp
 |.int i,.int j,Q=>C i j/\Q (f i j)
 |_,_,_=>False
def zff(f:Int->Int->D):DOp
 |.int i,.int j,Q=>Q (f i j)
 |_,_,_=>False
theorem OpD.ii{f:Value->Value->Sem Value}{C:Int->Int->Prop}{g:Int->Int->Int}(h:OpR X f (rI C λi j=>.int (g i j))):OpD X f (gII C λi j=>.int (g i j)) :=
 OpD.of h λx y H a b Q ra rb q=>by
  cases a with
  |int i=>
   cases b with
   |int j=>cases ra.int;cases rb.int;exact⟨i,j,rfl,rfl,q.1,.int _,Same.refl _,.int,q.2⟩
   |_=>exact q.elim
  |_=>exact q.elim
theorem OpD.ii0{f:Value->Value->Sem Value}{g:Int->Int->Int}(h:OpR X f (rI0 λi j=>.int (g i j))):OpD X f (zff λi j=>.int (g i j)) :=
 OpD.of h λx y H a b Q ra rb q=>by
  cases a with
  |int i=>
   cases b with
   |int j=>cases ra.int;cases rb.int;exact⟨i,j,rfl,rfl,.int _,Same.refl _,.int,q⟩
   |_=>exact q.elim
  |_=>exact q.elim
theorem OpD.ib0{f:Value->Value->Sem Value}{g:Int->Int->Bool}(h:OpR X f (rI0 λi j=>.bl (g i j))):OpD X f (zff λi j=>.bool (g i j)) :=
 OpD.of h λx y H a b Q ra rb q=>by
  cases a with
  |int i=>
   cases b with
   |int j=>cases ra.int;cases rb.int;exact⟨i,j,rfl,rfl,.bool _,Same.refl _,.bl,q⟩
   |_=>exact q.elim
  |_=>exact q.elim
theorem vz:OpD X (binaryOp .Sub) (zff λi j=>.int (i-j)):=OpD.ii0 zrz
theorem zss:OpD X (binaryOp .FloorDiv) (gII zqy λi j=>.int (i / j)):=OpD.ii zcu
theorem zj1:OpD X (binaryOp .Mod) (gII (λ_ j=>0<j) λi j=>.int (i % j)):=OpD.ii zh7
theorem zq4:OpD X (binaryOp .Pow) (gII zk4 λi j=>.int (i ^ j.toNat)):=OpD.ii zr1
theorem zgx:OpD X (binaryOp .LShift) (gII zk4 λi j=>.int (i * 2 ^ j.toNat)):=OpD.ii zr2
theorem zva:OpD X (binaryOp .RShift) (gII (λ_ j=>0<=j) λi j=>.int (i / 2 ^ j.toNat)):=OpD.ii zr3
theorem zfg:OpD X (compareOp .Lt) (zff λi j=>.bool (decide (i<j))):=OpD.ib0 zus
theorem zfh:OpD X (compareOp .LtE) (zff λi j=>.bool (decide (i<=j))):=OpD.ib0 zut
theorem zb7:OpD X (compareOp .Gt) (zff λi j=>.bool (decide (j<i))):=OpD.ib0 zqs
theorem zwp:OpD X (compareOp .GtE) (zff λi j=>.bool (decide (j<=i))):=OpD.ib0 zuu
def zst:D->D->(List D->Prop)->Prop
 |.list xs,.list ys,Q=>xs.length+ys.length<=sizeLine/\Q (xs++ys)
 |_,_,_=>False
theorem zpc:OpR X (binaryOp .Add) (λx y H Q=>∃l b xs zs,x=.ref l/\y=.ref b/\Rd H l (.lst xs)/\Rd H b (.lst zs)/\xs.length+zs.length<=sizeLine/\∀p,H p=none->Q (.ref p) (upd H p (.lst (xs++zs)))):=by
 intro pins s σ H x y v u Q I rx ry h;obtain⟨l,b,xs,zs,rfl,rfl,hH,hB,hz,q⟩:=h
 cases rx
 cases ry;obtain⟨z,its,n,r,e⟩:=hH.ok I.hok;obtain⟨z2,its2,n2,r2,e2⟩:=hB.ok I.hok;have hl:=r.length;have hl2:=r2.length;refine PySem.P.add_list e e2 ?_ (by rw[List.size_toArray,List.size_toArray];omega);have ea:its.toArray++its2.toArray=(its++its2).toArray:=by simp
 rw[ea];exact⟨.ref _,_,I.lnew (t':=s.toks) (r.append r2) (by rw[List.length_append];omega),rfl,q _ I.fresh⟩
theorem f_cat:OpF X (binaryOp .Add) zst:=OpF.of zpc λx y H a b Q ra rb q=>by
 cases a with
 |list xs=>
  cases b with
  |list ys=>
   obtain⟨l,vs,rfl,hl,r1⟩:=ra.list;obtain⟨m,ws,rfl,hm,r2⟩:=rb.list;exact⟨l,m,vs,ws,rfl,rfl,hl,hm,by rw[<-r1.length,<-r2.length];exact q.1,λp hp=>⟨p,_,xs++ys,rfl,yk hp _,hp,zx,(r1.append r2).same (yk hp _),q.2⟩⟩
  |_=>exact q.elim
 |_=>exact q.elim
def zsu:D->D->(List D->Prop)->Prop
 |.list xs,.int k,Q=>-(2 ^ 63)<=k/\k<2 ^ 63/\xs.length * k.toNat<=sizeLine/\Q (List.replicate k.toNat xs).flatten
 |_,_,_=>False
theorem zpd:OpR X (binaryOp .Mult) (λx y H Q=>∃l k xs,x=.ref l/\y=.int k/\Rd H l (.lst xs)/\-(2 ^ 63)<=k/\k<2 ^ 63/\xs.length * k.toNat<=sizeLine /\
 ∀p,H p=none->Q (.ref p) (upd H p (.lst (List.replicate k.toNat xs).flatten))):=by
 intro pins s σ H x y v u Q I rx ry h;obtain⟨l,k,xs,rfl,rfl,hH,h1,h2,hz,q⟩:=h
 cases rx;obtain⟨t,rfl⟩:=ry;obtain⟨z,its,n,r,e⟩:=hH.ok I.hok;have hl:=r.length;have hlen:its.toArray.size * k.toNat<=sizeLine:=by rw[List.size_toArray,<-hl];exact hz
 have hcap:¬ its.toArray.size * k.toNat >(2 ^ 63-1) / 8:=by
  have:(sizeLine:Nat)<=(2 ^ 63-1) / 8:=by decide
  omega
 have hfit:¬ (!Builtin.List.listFitsIndex k)=true:=by
  rw[fitsIndex_both h1 h2];exact Bool.false_ne_true
 have hlong:¬ Builtin.List.listTooLong (its.toArray.size * k.toNat)=true:=by
  rw[zmj hlen];exact Bool.false_ne_true
 have hnew:List.foldl (λx1 x2=>x1++x2) #[] (List.replicate (if its.toArray.isEmpty=true then 0 else k.toNat) its.toArray)=(List.replicate k.toNat its).flatten.toArray:=by
  have f0:∀m:Nat,List.foldl (λx1 x2=>x1++x2) #[] (List.replicate m its.toArray)=(List.replicate m its).flatten.toArray:=λm=>by
   have:=zel its m [];rw[List.nil_append]at this;exact this
  rw[f0]
  cases its with
  |nil=>simp
  |cons a r'=>rw[if_neg (by simp)]
 refine wpAny_binaryOp_repeat_ref (T := "list") (U := "int") (by decide) ⟨_,e,rfl⟩ (λs'=>typeIs_int s' k t) noFill_list_mul F.fills_int_mul F.slot_int_rmul repeat_list F.slot_int_index.lookup
  (call_meets F.slot_int_rmul (typeIs_int s k t) F.entry_int_rmul (F.args_int_rmul_2 _ _) (int___rmul___int_list k t l its.toArray n)
   ⟨e,rfl,⟨_,e,rfl⟩,call_meets F.slot_list_mul ⟨_,e,rfl⟩ F.entry_list_mul (F.args_list_mul_2 _ _) (AutoListH.list___mul___list_int_3 l its.toArray n k t hfit hcap hlong) ⟨e,?_⟩⟩)
 rw[hnew];exact⟨.ref _,_,I.lnew (t':=s.toks) (r.rep k.toNat) (by rw[zo4,Nat.mul_comm];exact hz),rfl,q _ I.fresh⟩
theorem f_rep:OpF X (binaryOp .Mult) zsu:=OpF.of zpd λx y H a b Q ra rb q=>by
 cases a with
 |list xs=>
  cases b with
  |int k=>
   obtain⟨l,vs,rfl,hl,r1⟩:=ra.list
   cases rb.int;obtain⟨h1,h2,h3,q⟩:=q;exact⟨l,k,vs,rfl,rfl,hl,h1,h2,by rw[<-r1.length];exact h3,λp hp=>⟨p,_,_,rfl,yk hp _,hp,zx,(r1.rep k.toNat).same (yk hp _),q⟩⟩
  |_=>exact q.elim
 |_=>exact q.elim
def zsv:DOp
 |.int i,.int j,Q=>Q (.int (i+j))
 |.str x,.str y,Q=>x.length+y.length<=sizeLine/\Q (.str (x++y))
 |.tuple xs,.tuple ys,Q=>xs.length+ys.length<=sizeLine/\Q (.tuple (xs++ys))
 |.list xs,.list ys,Q=>xs.length+ys.length<=sizeLine/\Q (.list (xs++ys))
 |_,_,_=>False
theorem zpe:OpR X (binaryOp .Add) (λx y H Q=>∃a b xs ys,x=.ref a/\y=.ref b/\SqT X.K H a xs/\SqT X.K H b ys/\xs.length+ys.length<=sizeLine/\∀p H',Same H H'->SqT X.K H' p (xs++ys)->Q (.ref p) H'):=by
 intro pins s σ H x y v u Q I rx ry h;obtain⟨a,b,xs,ys,rfl,rfl,ha,hb,hz,q⟩:=h
 cases rx
 cases ry;obtain⟨its,r1,p1,_⟩:=I.tuple ha;obtain⟨its2,r2,p2,_⟩:=I.tuple hb
 by_cases hx:xs = []
 ·obtain⟨⟨cls,dd,data,sl⟩,ho,hc,n,hd⟩:=id p1;obtain⟨⟨cls2,dd2,data2,sl2⟩,ho2,hc2,n2,hd2⟩:=id p2;simp only at hc hd hc2 hd2;subst hc hd hc2 hd2;have hv:its = []:=r1.nil_iff.mpr hx;refine concat_meets ⟨_,ho,rfl⟩ ⟨_,ho2,rfl⟩ noFill_tuple_add seq_tuple_add PySem.F.slot_tuple_add PySem.F.entry_tuple_add (PySem.F.args_tuple_add_2 _ _) (tuple_addW0 a b its.toArray its2.toArray n n2 dd dd2 sl sl2 (by simp[hv])) ⟨ho,ho2,?_⟩;exact⟨.ref b,H,I,rfl,q b H (Same.refl H) (by rw[hx,List.nil_append];exact hb)⟩
 ·refine HT.cat_tup p1 p2 (λz=>hx (r1.nil_iff.mp z)) (λz=>⟨.ref a,H,I,rfl,q a H (Same.refl H) (by rw[r2.nil_iff.mp z,List.append_nil];exact ha)⟩) (λz=>?_) (by rw[<-r1.length,<-r2.length];exact hz);refine⟨.ref s.heap.objs.size,_,I.laid (t':=s.toks) (o:=.tup (xs++ys)) (λb ob q=>Heap.get?_push_of_some _ q) (Nat.le_refl _) ?_,rfl,q _ _ (yk (I.hok.fresh (Nat.le_refl _)) _) (SqT.of zx)⟩;exact⟨by rw[List.length_append];exact hz,_,r1.append r2,TupD.new _ _⟩
theorem o_catT:OpD X (binaryOp .Add) (λa b Q=>match a,b with|.tuple xs,.tuple ys=>xs.length+ys.length<=sizeLine/\Q (.tuple (xs++ys))|_,_=>False):=OpD.of zpe λx y H a b Q ra rb q=>by
 cases a with
 |tuple xs=>
  cases b with
  |tuple ys=>
   obtain⟨l,vs,rfl,hl,r1⟩:=ra.tuple;obtain⟨m,ws,rfl,hm,r2⟩:=rb.tuple;exact⟨l,m,vs,ws,rfl,rfl,hl,hm,by rw[<-r1.length,<-r2.length];exact q.1,λp H' sm e=>⟨_,sm,.tup e ((r1.append r2).same sm),q.2⟩⟩
  |_=>exact q.elim
 |_=>exact q.elim
theorem o_addS:OpD X (binaryOp .Add) (λa b Q=>match a,b with|.str x,.str y=>x.length+y.length<=sizeLine/\Q (.str (x++y))|_,_=>False):=OpD.of zh9 λx y H a b Q ra rb q=>by
 cases a with
 |str xs=>
  cases b with
  |str ys=>cases ra.str;cases rb.str;exact⟨_,_,rfl,rfl,q.1,.str _,Same.refl _,.str,q.2⟩
  |_=>exact q.elim
 |_=>exact q.elim
theorem wj:OpD X (binaryOp .Add) zsv:=⟨λpins s σ H x y v u a b Q I rx ry ra rb q=>by
 cases a with
 |int i=>cases b with
  |int j=>exact(OpD.ii0 zmc).run pins s σ H x y v u _ _ Q I rx ry ra rb q
  |_=>exact q.elim
 |str i=>cases b with
  |str j=>exact o_addS.run pins s σ H x y v u _ _ Q I rx ry ra rb q
  |_=>exact q.elim
 |tuple i=>cases b with
  |tuple j=>exact o_catT.run pins s σ H x y v u _ _ Q I rx ry ra rb q
  |_=>exact q.elim
 |list i=>cases b with
  |list j=>exact f_cat.opD.run pins s σ H x y v u _ _ Q I rx ry ra rb q
  |_=>exact q.elim
 |_=>exact q.elim⟩
def zsw:DOp
 |.int i,.int j,Q=>CMul i j/\Q (.int (i * j))
 |.list xs,.int k,Q=>-(2 ^ 63)<=k/\k<2 ^ 63/\xs.length * k.toNat<=sizeLine/\Q (.list (List.replicate k.toNat xs).flatten)
 |_,_,_=>False
theorem zj2:OpD X (binaryOp .Mult) zsw:=⟨λpins s σ H x y v u a b Q I rx ry ra rb q=>by
 cases a with
 |int i=>cases b with
  |int j=>exact(OpD.ii zr0).run pins s σ H x y v u _ _ Q I rx ry ra rb q
  |_=>exact q.elim
 |list i=>cases b with
  |int j=>exact f_rep.opD.run pins s σ H x y v u _ _ Q I rx ry ra rb q
  |_=>exact q.elim
 |_=>exact q.elim⟩
def gEq:DOp
 |.int i,.int j,Q=>Q (.bool (decide (i=j)))
 |.str i,.str j,Q=>Q (.bool (decide (i=j)))
 |.bool i,.bool j,Q=>Q (.bool (decide (i=j)))
 |a,b,Q=>Lay a/\Lay b/\Q (.bool (PyData.eqv a b))
def gNe:DOp
 |.int i,.int j,Q=>Q (.bool (!decide (i=j)))
 |.str i,.str j,Q=>Q (.bool (!decide (i=j)))
 |.bool i,.bool j,Q=>Q (.bool (!decide (i=j)))
 |a,b,Q=>Lay a/\Lay b/\Q (.bool (!PyData.eqv a b))
theorem zvb(hu:X.A.units+64<cLine):OpD X (compareOp .Eq) (λa b Q=>Lay a/\Lay b/\Q (.bool (PyData.eqv a b))):=⟨λpins s σ H x y v u a b Q I rx ry ra rb q=>by
 obtain⟨as,e1⟩:=ra.reads I rx q.1.can;obtain⟨bs,e2⟩:=rb.reads I ry q.2.1.can;exact eq_dataH e1 e2 q.1 q.2.1 hu ⟨.bl _,H,_,I,rfl,Same.refl _,.bl,q.2.2⟩⟩
theorem zvc(hu:X.A.units+64<cLine):OpD X (compareOp .NotEq) (λa b Q=>Lay a/\Lay b/\Q (.bool (!PyData.eqv a b))):=⟨λpins s σ H x y v u a b Q I rx ry ra rb q=>by
 obtain⟨as,e1⟩:=ra.reads I rx q.1.can;obtain⟨bs,e2⟩:=rb.reads I ry q.2.1.can;exact ne_dataH e1 e2 q.1 q.2.1 hu ⟨.bl _,H,_,I,rfl,Same.refl _,.bl,q.2.2⟩⟩
theorem zq5{f:D->D->Bool}(neg:Bool)(op:CmpOp)(h:OpR X (compareOp op) (λx y H Q=>zr5 x y=true/\Q (.bl (if neg then !decide (x=y) else decide (x=y))) H)):
  OpD X (compareOp op) (λa b Q=>match a,b with
   |.int i,.int j=>Q (.bool (if neg then !decide (i=j) else decide (i=j)))
   |.str i,.str j=>Q (.bool (if neg then !decide (i=j) else decide (i=j)))
   |.bool i,.bool j=>Q (.bool (if neg then !decide (i=j) else decide (i=j)))
   |_,_=>False):=OpD.of h λx y H a b Q ra rb q=>by
 cases a with
 |int i=>cases b with
  |int j=>
   cases ra.int;cases rb.int;have e:decide (V.int i=V.int j)=decide (i=j):=by rw[Bool.eq_iff_iff];simp
   rw[e];exact⟨rfl,.bool _,Same.refl _,.bl,q⟩
  |_=>exact q.elim
 |str i=>cases b with
  |str j=>
   cases ra.str;cases rb.str;have e:decide (V.str i=V.str j)=decide (i=j):=by rw[Bool.eq_iff_iff];simp
   rw[e];exact⟨rfl,.bool _,Same.refl _,.bl,q⟩
  |_=>exact q.elim
 |bool i=>cases b with
  |bool j=>
   cases ra.bool;cases rb.bool;have e:decide (V.bl i=V.bl j)=decide (i=j):=by rw[Bool.eq_iff_iff];simp
   rw[e];exact⟨rfl,.bool _,Same.refl _,.bl,q⟩
  |_=>exact q.elim
 |_=>exact q.elim
theorem zcz{k:Nat}(hr:Room k X.A):OpD X (compareOp .Eq) gEq:=⟨λpins s σ H x y v u a b Q I rx ry ra rb q=>by
 have G:=(zvb (X:=X) hr.units).run pins s σ H x y v u a b Q I rx ry ra rb;have S:=(zq5 (X:=X) (f:=λ_ _=>true) false .Eq zqr).run pins s σ H x y v u a b Q I rx ry ra rb
 cases a <;> cases b <;> first|exact S q|exact G q⟩
theorem j6{k:Nat}(hr:Room k X.A):OpD X (compareOp .NotEq) gNe:=⟨λpins s σ H x y v u a b Q I rx ry ra rb q=>by
 have G:=(zvc (X:=X) hr.units).run pins s σ H x y v u a b Q I rx ry ra rb;have S:=(zq5 (X:=X) (f:=λ_ _=>true) true .NotEq zur).run pins s σ H x y v u a b Q I rx ry ra rb
 cases a <;> cases b <;> first|exact S q|exact G q⟩
def j7:D->Bool
 |.none=>true
 |_=>false
def zsx:DOp:=λa b Q=>match b with
 |.none=>Q (.bool (j7 a))
 |_=>False
def zmu:DOp:=λa b Q=>match b with
 |.none=>Q (.bool (!j7 a))
 |_=>False
theorem zc0{K:PySem.W.Frag}{H:Hp}{d:D}{v:V}(h:RepT K H d v):decide (v=.non)=j7 d:=by
 rcases h with h |⟨xs,rfl,a,vs,rfl,_⟩
 ·cases h <;> rfl
 ·rfl
theorem zq6:OpD X (compareOp .Is) zsx:=OpD.of zr6 λx y H a b Q ra rb q=>by
 cases b with
 |none=>cases rb.none;refine⟨rfl,.bool (j7 a),Same.refl _,?_,q⟩;rw[zc0 ra];exact .bl
 |_=>exact q.elim
theorem zsy:OpD X (compareOp .IsNot) zmu:=OpD.of zoy λx y H a b Q ra rb q=>by
 cases b with
 |none=>cases rb.none;refine⟨rfl,.bool (!j7 a),Same.refl _,?_,q⟩;rw[zc0 ra];exact .bl
 |_=>exact q.elim
def inD(x:D)(ys:List D):Bool:=ys.any λy=>PyData.eqv y x
def gIn(neg:Bool):DOp:=λa b Q=>match b with
 |.list ys=>Lay a/\Lay (.list ys)/\Q (.bool (if neg then !inD a ys else inD a ys))
 |.tuple ys=>Lay a/\Lay (.tuple ys)/\Q (.bool (if neg then !inD a ys else inD a ys))
 |_=>False
theorem Lay.all{xs:List D}(h:Lay (.list xs)):PyData.canLayAll0 xs=true:=by simpa[PyData.canLay0]using h.can
theorem Lay.allT{xs:List D}(h:Lay (.tuple xs)):PyData.canLayAll0 xs=true:=by simpa[PyData.canLay0]using h.can
theorem zvd{k:Nat}(hr:Room k X.A):OpD X (compareOp .In) (gIn false):=⟨λpins s σ H x y v u a b Q I rx ry ra rb q=>by
 have hu:=hr.un
 cases b with
 |list ys=>
  obtain⟨as,e1⟩:=ra.reads I rx q.1.can;obtain⟨bs,e2⟩:=rb.reads I ry q.2.1.can;have:=q.1.deep;exact SeqAt.in_list_reads e2 e1 q.2.1.all q.1.can (by omega) ⟨.bl _,H,_,I,rfl,Same.refl _,.bl,q.2.2⟩
 |tuple ys=>
  obtain⟨as,e1⟩:=ra.reads I rx q.1.can;obtain⟨bs,e2⟩:=rb.reads I ry q.2.1.can;have:=q.1.deep;exact SeqAt.in_tuple_reads e2 e1 q.2.1.allT q.1.can (by omega) ⟨.bl _,H,_,I,rfl,Same.refl _,.bl,q.2.2⟩
 |_=>exact q.elim⟩
theorem zpf{k:Nat}(hr:Room k X.A):OpD X (compareOp .NotIn) (gIn true):=⟨λpins s σ H x y v u a b Q I rx ry ra rb q=>by
 have hu:=hr.un
 cases b with
 |list ys=>
  obtain⟨as,e1⟩:=ra.reads I rx q.1.can;obtain⟨bs,e2⟩:=rb.reads I ry q.2.1.can;have:=q.1.deep;exact SeqAt.notIn_list_reads e2 e1 q.2.1.all q.1.can (by omega) ⟨.bl _,H,_,I,rfl,Same.refl _,.bl,q.2.2⟩
 |tuple ys=>
  obtain⟨as,e1⟩:=ra.reads I rx q.1.can;obtain⟨bs,e2⟩:=rb.reads I ry q.2.1.can;have:=q.1.deep;exact SeqAt.notIn_tuple_reads e2 e1 q.2.1.allT q.1.can (by omega) ⟨.bl _,H,_,I,rfl,Same.refl _,.bl,q.2.2⟩
 |_=>exact q.elim⟩
end
structure CallD(X:Cx)(f:Value)(g:List D->(D->Prop)->Prop):Prop where
 run:∀(pins:List (Addr×Obj)) (s:Shared) (σ:St) (H:Hp) (vs:List V) (us:List Value) (ds:List D) (Q:D->Prop),Inv X pins σ H s->Vals vs us->RepTs X.K H ds vs->g ds Q->wpAny (model X.prog X.w) X.A (call f us) (DEnd X pins σ H Q) X.xe s
structure CallF(X:Cx)(f:Value)(g:List D->(List D->Prop)->Prop):Prop where
 run:∀(pins:List (Addr×Obj)) (s:Shared) (σ:St) (H:Hp) (vs:List V) (us:List Value) (ds:List D) (Q:List D->Prop),Inv X pins σ H s->Vals vs us->RepTs X.K H ds vs->g ds Q->wpAny (model X.prog X.w) X.A (call f us) (zeq X pins σ H Q) X.xe s
def dCB(g:List D->(D->Prop)->Prop)(t:DTF):DTE:=λσ Q=>t σ λds=>g ds Q
def dCF(g:List D->(List D->Prop)->Prop)(t:DTF):DTF:=λσ Q=>t σ λds=>g ds Q
section
variable {X:Cx}{f:Value}{g:List D->(D->Prop)->Prop}{gf:List D->(List D->Prop)->Prop}{e:Expr}{es:List Expr}{t:DTF}{x:Str}{p pos:Pos}
theorem CallD.of{r:List V->Hp->VK->Prop}(h:wz X f r)(k:∀vs H ds Q,RepTs X.K H ds vs->g ds Q->r vs H (λv H'=>∃d,Same H H'/\Rep X.K H' d v/\Q d)):CallD X f g :=
 ⟨λpins s σ H vs us ds Q I rv rd q=>thn (h pins s σ H vs us _ I rv (k vs H ds Q rd q)) λw s' zq93=>by obtain⟨z,H',I',rz,d,sm,rp,qd⟩:=zq93;exact⟨z,H',d,I',rz,sm,rp,qd⟩⟩
theorem CallF.of{r:List V->Hp->VK->Prop}(h:wz X f r)(k:∀vs H ds Q,RepTs X.K H ds vs->gf ds Q->r vs H (λv H'=>∃p vs xs,v=.ref p/\Same H H'/\H p=none/\H' p=some (.lst vs)/\Reps X.K H' xs vs/\Q xs)):CallF X f gf :=
 ⟨λpins s σ H vs us ds Q I rv rd q=>thn (h pins s σ H vs us _ I rv (k vs H ds Q rd q)) λw s' zq93=>by obtain⟨z,H',I',rz,p,ws,xs,ez,sm,n,e,rp,qd⟩:=zq93;exact⟨p,H',ws,xs,by subst ez;exact rz,I',sm,n,e,rp,qd⟩⟩
theorem CallD.cr(h:CallD X f g):wz X f (λvs H Q=>∃ds QD,RepTs X.K H ds vs/\g ds QD/\∀v H' d,Same H H'->Rep X.K H' d v->QD d->Q v H') :=
 λpins s σ H vs us Q I rv zq2=>by obtain⟨ds,QD,rd,q,k⟩:=zq2;exact thn (h.run pins s σ H vs us ds QD I rv rd q) λw s' zq0=>by obtain⟨z,H',d,I',rz,sm,rp,qd⟩:=zq0;exact⟨z,H',I',rz,k z H' d sm rp qd⟩
theorem CallF.cr(h:CallF X f gf):wz X f (λvs H Q=>∃ds QD,RepTs X.K H ds vs/\gf ds QD/\∀a H' ws xs,Same H H'->H a=none->H' a=some (.lst ws)->Reps X.K H' xs ws->QD xs->Q (.ref a) H') :=
 λpins s σ H vs us Q I rv zq2=>by obtain⟨ds,QD,rd,q,k⟩:=zq2;exact thn (h.run pins s σ H vs us ds QD I rv rd q) λw s' zq0=>by obtain⟨a,H',ws,xs,ew,I',sm,n,e,rp,qd⟩:=zq0;exact⟨.ref a,H',I',ew,k a H' ws xs sm n e rp qd⟩
theorem ym{id:String}(hc:CallD X (.builtin id) g)(hg:Gl X x)(hm:X.mg x=none)(hv:bootBuiltins x=some (.builtin id))(ha:DAv X (e::es) t)(hn:x ≠ "__name__" := by decide)(hdb:(x ==("__debug__" : Str))=false:=by decide)
  (he:starEach (e::es) X.env=(false,eval e X.env)::starEach es X.env:=by rfl) (hpl:(backTo pos (starEach es X.env)).any (·.1)=false:=by rfl):DE X (.Call (.Name x p) (e::es) [] pos) (dCB g t) :=
 DE.of (zai hc.cr hg hm hv ha.pa hn hdb he hpl) λσ H H₀ σD QD ok q=>⟨H₀,σD,_,ok,q,λvs H1 ds s1 r1 q1=>⟨ds,_,r1,q1,λv H' d s2 rp qd=>⟨d,s1.trans s2,rp,qd⟩⟩⟩
theorem zgy{id:String}(hc:CallF X (.builtin id) gf)(hg:Gl X x)(hm:X.mg x=none)(hv:bootBuiltins x=some (.builtin id))(ha:DAv X (e::es) t)(hn:x ≠ "__name__" := by decide)(hdb:(x ==("__debug__" : Str))=false:=by decide)
  (he:starEach (e::es) X.env=(false,eval e X.env)::starEach es X.env:=by rfl) (hpl:(backTo pos (starEach es X.env)).any (·.1)=false:=by rfl):DF X (.Call (.Name x p) (e::es) [] pos) (dCF gf t) :=
 DF.of (zai hc.cr hg hm hv ha.pa hn hdb he hpl) λσ H H₀ σD QD ok q=>⟨H₀,σD,_,ok,q,λvs H1 ds s1 r1 q1=>⟨ds,_,r1,q1,λa H' ws xs s2 n e rp qd=>⟨a,ws,xs,rfl,s1.trans s2,s1.free n,e,rp,qd⟩⟩⟩
theorem wb{id:String}(hc:CallD X (.type id) g)(hg:Gl X x)(hm:X.mg x=none)(hv:bootBuiltins x=some (.type id))(ha:DAv X (e::es) t)(hn:x ≠ "__name__" := by decide)(hdb:(x ==("__debug__" : Str))=false:=by decide)
  (he:starEach (e::es) X.env=(false,eval e X.env)::starEach es X.env:=by rfl) (hpl:(backTo pos (starEach es X.env)).any (·.1)=false:=by rfl):DE X (.Call (.Name x p) (e::es) [] pos) (dCB g t) :=
 DE.of (zk8 hc.cr hg hm hv ha.pa hn hdb he hpl) λσ H H₀ σD QD ok q=>⟨H₀,σD,_,ok,q,λvs H1 ds s1 r1 q1=>⟨ds,_,r1,q1,λv H' d s2 rp qd=>⟨d,s1.trans s2,rp,qd⟩⟩⟩
theorem RepTs.one{K:PySem.W.Frag}{H:Hp}{d:D}{vs:List V}(h:RepTs K H [d] vs):∃v,vs = [v]/\RepT K H d v:=by
 cases h with
 |cons r t=>cases t;exact⟨_,rfl,r⟩
theorem RepTs.two{K:PySem.W.Frag}{H:Hp}{d e:D}{vs:List V}(h:RepTs K H [d,e] vs):∃v w,vs = [v,w]/\RepT K H d v/\RepT K H e w:=by
 cases h with
 |cons r t=>cases t with
  |cons r2 t=>cases t;exact⟨_,_,rfl,r,r2⟩
def zsz:List D->(D->Prop)->Prop
 |[.str x],Q=>x.length<=sizeLine/\Q (.int x.length)
 |[.list xs],Q=>Q (.int xs.length)
 |[.tuple xs],Q=>Q (.int xs.length)
 |_,_=>False
theorem zc1:CallD X (.builtin "len") zsz:=CallD.of zmf λvs H ds Q rd q=>by
 match ds,q,rd with
 |[.str x],q,rd=>
  obtain⟨v,rfl,r⟩:=rd.one
  cases r.str;exact⟨_,x.length,rfl,⟨q.1,rfl⟩,_,Same.refl _,.int,q.2⟩
 |[.list xs],q,rd=>
  obtain⟨v,rfl,r⟩:=rd.one;obtain⟨a,vs,rfl,h,r⟩:=r.list.sq;exact⟨_,xs.length,rfl,.inl ⟨vs,h,r.length⟩,_,Same.refl _,.int,q⟩
 |[.tuple xs],q,rd=>
  obtain⟨v,rfl,r⟩:=rd.one;obtain⟨a,vs,rfl,h,r⟩:=r.tuple;exact⟨_,xs.length,rfl,.inr ⟨vs,h,r.length⟩,_,Same.refl _,.int,q⟩
def zs0:List D->(D->Prop)->Prop
 |[.int i,.int j],Q=>Q (.int (min i j))
 |_,_=>False
def zs1:List D->(D->Prop)->Prop
 |[.int i,.int j],Q=>Q (.int (max i j))
 |_,_=>False
theorem zj3(hc:X.calm=true):CallD X (.builtin "min") zs0:=CallD.of (zk6 hc) λvs H ds Q rd q=>by
 match ds,q,rd with
 |[.int i,.int j],q,rd=>
  obtain⟨v,w,rfl,r1,r2⟩:=rd.two
  cases r1.int
  cases r2.int;refine⟨i,j,rfl,_,Same.refl _,.int,?_⟩;have e:(if j<i then j else i)=min i j:=by split <;> omega
  rw[e];exact q
theorem zc2(hc:X.calm=true):CallD X (.builtin "max") zs1:=CallD.of (zk5 hc) λvs H ds Q rd q=>by
 match ds,q,rd with
 |[.int i,.int j],q,rd=>
  obtain⟨v,w,rfl,r1,r2⟩:=rd.two
  cases r1.int
  cases r2.int;refine⟨i,j,rfl,_,Same.refl _,.int,?_⟩;have e:(if j > i then j else i)=max i j:=by split <;> omega
  rw[e];exact q
def zs2:List D->(D->Prop)->Prop
 |[.int i],Q=>Q (.int i)
 |[.bool b],Q=>Q (.int (if b then 1 else 0))
 |_,_=>False
theorem zve:CallD X (.type "int") zs2:=CallD.of zk7 λvs H ds Q rd q=>by
 match ds,q,rd with
 |[.int i],q,rd=>
  obtain⟨v,rfl,r⟩:=rd.one
  cases r.int;exact .inl ⟨i,rfl,_,Same.refl _,.int,q⟩
 |[.bool i],q,rd=>
  obtain⟨v,rfl,r⟩:=rd.one
  cases r.bool;exact .inr ⟨i,rfl,_,Same.refl _,.int,q⟩
def zii:List D->(D->Prop)->Prop
 |[.list xs],Q=>Q (.tuple xs)
 |[.tuple xs],Q=>Q (.tuple xs)
 |_,_=>False
theorem qc:CallD X (.type "tuple") zii:=CallD.of zd5 λvs H ds Q rd q=>by
 match ds,q,rd with
 |[.list xs],q,rd=>
  obtain⟨v,rfl,r⟩:=rd.one;obtain⟨a,vs,rfl,h,r⟩:=r.list.sq;exact⟨a,vs,rfl,.inl ⟨h,λl hl=>⟨_,yk hl _,.tup (SqT.of zx) (r.same (yk hl _)),q⟩⟩⟩
 |[.tuple xs],q,rd=>
  obtain⟨v,rfl,r⟩:=rd.one;obtain⟨a,vs,rfl,h,r⟩:=r.tuple;exact⟨a,vs,rfl,.inr ⟨h,_,Same.refl _,.tup h r,q⟩⟩
def zak:List D->Option (List Int)
 |[]=>some []
 |.int i::r=>(zak r).map (i :: ·)
 |_::_=>none
def kg:List D->Option (List Bool)
 |[]=>some []
 |.bool i::r=>(kg r).map (i :: ·)
 |_::_=>none
theorem zbd(ns:List Int):zak (ns.map PyData.int)=some ns:=by
 induction ns with
 |nil=>rfl
 |cons n ns ih=>simp[zak,ih]
theorem j8(ns:List Bool):kg (ns.map PyData.bool)=some ns:=by
 induction ns with
 |nil=>rfl
 |cons n ns ih=>simp[kg,ih]
theorem zbe{K:PySem.W.Frag}{H:Hp}:∀{xs:List D}{vs:List V}{ns:List Int},Reps K H xs vs->zak xs=some ns->vs=ns.map V.int
 |[],_,ns,r,e=>by cases r;simp[zak]at e;subst e;rfl
 |x::xs,_,ns,r,e=>by
  cases r with
  |cons r t=>
   cases x with
   |int i=>
    simp only[zak,Option.map_eq_some_iff]at e;obtain⟨ms,e1,rfl⟩:=e
    cases r;rw[zbe t e1];rfl
   |_=>simp[zak]at e
theorem j9{K:PySem.W.Frag}{H:Hp}:∀{xs:List D}{vs:List V}{ns:List Bool},Reps K H xs vs->kg xs=some ns->vs=ns.map V.bl
 |[],_,ns,r,e=>by cases r;simp[kg]at e;subst e;rfl
 |x::xs,_,ns,r,e=>by
  cases r with
  |cons r t=>
   cases x with
   |bool i=>
    simp only[kg,Option.map_eq_some_iff]at e;obtain⟨ms,e1,rfl⟩:=e
    cases r;rw[j9 t e1];rfl
   |_=>simp[kg]at e
def zs3:List D->(D->Prop)->Prop
 |[.list xs],Q=>∃ns,zak xs=some ns/\Q (.int ns.sum)
 |_,_=>False
theorem zq8(hc:X.calm=true):CallD X (.builtin "sum") zs3:=CallD.of (zml hc) λvs H ds Q rd q=>by
 match ds,q,rd with
 |[.list xs],q,rd=>
  obtain⟨v,rfl,r⟩:=rd.one;obtain⟨a,vs,rfl,h,r⟩:=r.list.sq;obtain⟨ns,e,q⟩:=q
  cases zbe r e;exact⟨a,ns,rfl,h,_,Same.refl _,.int,q⟩
def zs4:List D->(D->Prop)->Prop
 |[.list xs],Q=>∃ns,kg xs=some ns/\Q (.bool (ns.all id))
 |_,_=>False
def zs5:List D->(D->Prop)->Prop
 |[.list xs],Q=>∃ns,kg xs=some ns/\Q (.bool (ns.any id))
 |_,_=>False
theorem zq9(hc:X.calm=true):CallD X (.builtin "all") zs4:=CallD.of (zmm hc) λvs H ds Q rd q=>by
 match ds,q,rd with
 |[.list xs],q,rd=>
  obtain⟨v,rfl,r⟩:=rd.one;obtain⟨a,vs,rfl,h,r⟩:=r.list.sq;obtain⟨ns,e,q⟩:=q
  cases j9 r e;exact⟨a,ns,rfl,h,_,Same.refl _,.bl,q⟩
theorem zvf(hc:X.calm=true):CallD X (.builtin "any") zs5:=CallD.of (zmn hc) λvs H ds Q rd q=>by
 match ds,q,rd with
 |[.list xs],q,rd=>
  obtain⟨v,rfl,r⟩:=rd.one;obtain⟨a,vs,rfl,h,r⟩:=r.list.sq;obtain⟨ns,e,q⟩:=q
  cases j9 r e;exact⟨a,ns,rfl,h,_,Same.refl _,.bl,q⟩
def isD:String->D->Bool
 | "int",.int _=>true
 | "int",.bool _=>true
 | "bool",.bool _=>true
 | "str",.str _=>true
 | "list",.list _=>true
 | "tuple",.tuple _=>true
 | "dict",.dict _=>true
 |_,_=>false
def tyD:D->String
 |.none=> "NoneType"
 |.bool _=> "bool"
 |.int _=> "int"
 |.str _=> "str"
 |.list _=> "list"
 |.tuple _=> "tuple"
 |.dict _=> "dict"
theorem zij{pins:List (Addr×Obj)}{σ:St}{H:Hp}{s:Shared}{A:Around}{E:Value->Shared->Prop}{Q:Value->Shared->Prop}{c:Value}{b:Bool}{d:D}{v:V}{u:Value}(I:Inv X pins σ H s)(rp:RepT X.K H d v)(ru:RelV v u)(e:PySem.W.kitOne X.K (.type (tyD d)) c=some b)
  (h:∀tk,Q (.bool b) { s with toks:=tk }):wpAny (model X.prog X.w) A (call (.builtin "isinstance") [u,c]) Q E s:=by
 rcases rp with rp |⟨xs,rfl,a,vs,rfl,hr,_⟩
 ·cases rp with
  |non=>cases ru;exact PySem.W.kia_one PySem.W.kitx_none I.kIn True.intro e (λz=>nomatch z) h
  |bl=>cases ru;exact PySem.W.kia_one PySem.W.kitx_bool I.kIn True.intro e (λz=>nomatch z) h
  |int=>obtain⟨t,rfl⟩:=ru;exact PySem.W.kia_one PySem.W.kitx_int I.kIn True.intro e (λz=>nomatch z) h
  |str=>obtain⟨t,rfl⟩:=ru;exact PySem.W.kia_one PySem.W.kitx_str I.kIn True.intro e (λz=>nomatch z) h
  |tup q r=>
   cases ru;obtain⟨its,_,⟨o,h1,h2,_⟩,_⟩:=I.tuple q;exact PySem.W.kia_one PySem.W.kitx_tuple I.kIn ⟨o,h1,h2⟩ e (λz=>nomatch z) h
  |lst q r=>
   cases ru;obtain⟨_,_,_,n,_,h1⟩:=I.hok _ _ q;exact PySem.W.kia_one PySem.W.kitx_list I.kIn ⟨_,h1,rfl⟩ e (λz=>nomatch z) h
  |dic q r=>
   cases ru;obtain⟨_,_,_,vs,_,o,es,ep,h1,h2,_⟩:=I.hok _ _ q;exact PySem.W.kia_one PySem.W.kitx_dict I.kIn ⟨o,h1,h2.1⟩ e (λz=>nomatch z) h
 ·cases ru;obtain⟨_,_,n,_,h1⟩:=hr.ok I.hok;exact PySem.W.kia_one PySem.W.kitx_list I.kIn ⟨_,h1,rfl⟩ e (λz=>nomatch z) h
def dIs(n:String)(t:DTE):DTE:=λσ Q=>t σ λd=>Q (.bool (isD n d))
theorem zbf{n:String}{ta:DTE}{x2:Str}{p2:Pos}(hk:∀d:D,PySem.W.kitOne X.K (.type (tyD d)) (.type n)=some (isD n d))(hg:Gl X "isinstance")(hm:X.mg "isinstance" = none)(hv:bootBuiltins "isinstance" = some (.builtin "isinstance"))(ha:DV X e ta)
  (hg2:Gl X x2) (hm2:X.mg x2=none) (hv2:bootBuiltins x2=some (.type n)) (hn2:x2 ≠ "__name__" := by decide) (hdb2:(x2 ==("__debug__" : Str))=false:=by decide)
  (he:starEach (e :: [.Name x2 p2]) X.env=(false,eval e X.env)::starEach [.Name x2 p2] X.env:=by rfl) (he2:starEach [.Name x2 p2] X.env=(false,eval (.Name x2 p2) X.env)::starEach [] X.env:=by rfl) (hpl:(backTo pos (starEach [.Name x2 p2] X.env)).any (·.1)=false:=by rfl):DE X (.Call (.Name "isinstance" p) [e,.Name x2 p2] [] pos) (dIs n ta):=by
 have hc:wz X (.builtin "isinstance") (λvs H Q=>∃d v,vs = [v,.ty n]/\RepT X.K H d v/\Q (.bl (isD n d)) H):=λpins s σ H xs us Q I rv zq28=>by
  obtain⟨d,v,e,r,q⟩:=zq28;subst e;obtain⟨u,w,rfl,r1,r2⟩:=rv.two
  cases r2;exact zij I r r1 (hk d) λtk=>⟨.bl (isD n d),H,I.tok tk,rfl,q⟩
 refine DE.of (zai hc hg hm hv (wm ha.pe (wm (zos (v:=.ty n) hg2 hm2 hv2 rfl hn2 hdb2) ke he2) he) (by decide) (by decide) he hpl) λσ H H₀ σD QD ok q=>?_;exact⟨H₀,σD,_,ok,q,λv H1 d s1 r1 q1=>⟨d,v,rfl,r1,_,s1,.bl,q1⟩⟩
theorem zvg{K:PySem.W.Frag}(d:D):PySem.W.kitOne K (.type (tyD d)) (.type "int")=some (isD "int" d):=by cases d <;> rfl
theorem zs6{K:PySem.W.Frag}(d:D):PySem.W.kitOne K (.type (tyD d)) (.type "bool")=some (isD "bool" d):=by cases d <;> rfl
theorem zcj{K:PySem.W.Frag}(d:D):PySem.W.kitOne K (.type (tyD d)) (.type "tuple")=some (isD "tuple" d):=by cases d <;> rfl
variable {a b:Expr}{ta tb:DTE}
def gIx:DOp
 |.list xs,.int i,Q=>∃d,atI xs i=some d/\Q d
 |.tuple xs,.int i,Q=>∃d,atI xs i=some d/\Q d
 |.str x,.int i,Q=>x.length<=sizeLine/\∃c,atI x.cps.toList i=some c/\Q (.str ⟨#[c]⟩)
 |_,_,_=>False
theorem zj4{K:PySem.W.Frag}{H:Hp}{xs:List D}{vs:List V}{i:Int}{d:D}(r:Reps K H xs vs)(h:atI xs i=some d):∃v,atI vs i=some v/\Rep K H d v:=by
 unfold atI at h ⊢;rw[<-r.length]
 cases e:ixN xs.length i with
 |none=>rw[e]at h;cases h
 |some j=>
  rw[e]at h;exact r.get h
theorem yz(ha:DV X a ta)(hb:DE X b tb)(hs:ze9 b):DE X (.Subscript a b pos) (dOp gIx ta tb) :=
 DE.of (zbw zsf ha.pe hb.pe hs) λσ H H₀ σD QD ok q=>⟨H₀,σD,_,ok,q,λv H1 d s1 r1 q1=>⟨H₀,σD,_,ok.after s1,q1,λw H2 d2 s2 r2 q2=>by
  have r1:=r1.same s2;have sm:=s1.trans s2
  cases d2 with
  |int i=>
   cases r2
   cases d with
   |list xs=>
    obtain⟨l,vs,rfl,hl,r⟩:=r1.list.sq;obtain⟨d,e,q⟩:=q2;obtain⟨x,e1,e2⟩:=zj4 r e;exact .inl ⟨l,vs,i,x,rfl,rfl,hl,e1,d,sm,e2,q⟩
   |tuple xs=>
    obtain⟨l,vs,rfl,hl,r⟩:=r1.tuple;obtain⟨d,e,q⟩:=q2;obtain⟨x,e1,e2⟩:=zj4 r e;exact .inr (.inl ⟨l,vs,i,x,rfl,rfl,hl,e1,d,sm,e2,q⟩)
   |str x=>
    cases r1.str;obtain⟨hz,c,e,q⟩:=q2;exact .inr (.inr ⟨x,i,c,rfl,rfl,hz,e,_,sm,.str,q⟩)
   |_=>exact q2.elim
  |_=>cases d <;> exact q2.elim⟩⟩
abbrev DTO:=DSt->(Option Int->Prop)->Prop
structure DO(X:Cx)(e:Option Expr)(t:DTO):Prop where
 po:PO X e (λσ H Q=>∃H₀ σD QD,DOk X.K H₀ H σD σ/\t σD QD/\∀o H',Same H H'->QD o->Q o H')
def zfi:DTO:=λ_ Q=>Q none
def zmv(t:DTE):DTO:=λσ Q=>t σ λd=>match d with
 |.int i=>Q (some i)
 |_=>False
theorem zj5:DO X none zfi:=⟨λpins s σ H Q I zq40=>by obtain⟨H₀,σD,QD,ok,q,k⟩:=zq40;exact zo1 pins s σ H Q I (k none H (Same.refl _) q)⟩
theorem zck(h:DE X a ta):DO X (some a) (zmv ta):=⟨λpins s σ H Q I ⟨H₀,σD,QD,ok,q,k⟩=>zo2 h.pe pins s σ H Q I ⟨H₀,σD,_,ok,q,λv H1 d s1 r1 q1=>by
 cases d with
 |int i=>cases r1;exact⟨i,rfl,k _ _ s1 q1⟩
 |_=>exact q1.elim⟩⟩
def v0(xs:List D)(lo hi:Option Int):List D:=(xs.drop (HT.sIx xs.length 0 lo)).take (HT.sIx xs.length xs.length hi-HT.sIx xs.length 0 lo)
theorem Reps.cut{K:PySem.W.Frag}{H:Hp}{xs:List D}{vs:List V}(r:Reps K H xs vs)(lo hi:Option Int):Reps K H (v0 xs lo hi) (zd3 vs lo hi):=by
 unfold v0 zd3;rw[<-r.length];exact(r.drop _).take _
variable {lo hi:Option Expr}{tl th:DTO}{p2:Pos}
theorem zpg:SlR X (λx lo hi H Q=>∃a xs,x=.ref a/\SqT X.K H a xs/\∀p H',Same H H'->SqT X.K H' p (zd3 xs lo hi)->Q (.ref p) H'):=by
 intro pins s σ H x v vl vu lo hi sl Q I rx hs pl pu h;obtain⟨a,xs,rfl,hx,q⟩:=h
 by_cases hw:HT.sIx xs.length 0 lo=0/\HT.sIx xs.length xs.length hi=xs.length
 ·cases rx;obtain⟨its,r,ht,hz⟩:=I.tuple hx;have hlen:its.toArray.size=xs.length:=by rw[List.size_toArray];exact r.length.symm
  refine⟨"tuple",_,PyProof.Rows.slot_tuple_getitem.lookup,ht.typeIs,zle ht hs pl pu (by rw[hlen];exact hw.1) (by rw[hlen];exact hw.2) ⟨.ref a,H,I,rfl,q a H (Same.refl H) ?_⟩⟩;unfold zd3;rw[hw.1,hw.2,List.drop_zero,Nat.sub_zero,List.take_length];exact hx
 ·exact zsd pins s σ H (.ref a) v vl vu lo hi sl Q I rx hs pl pu ⟨a,xs,rfl,hx,hw,λp hp=>q p _ (yk hp _) (SqT.of zx)⟩
def dSl(te:DTE)(tl th:DTO):DTE:=λσ Q=>te σ λd=>tl σ λl=>th σ λu=>match d with
 |.list xs=>Q (.list (v0 xs l u))
 |.tuple xs=>Q (.tuple (v0 xs l u))
 |_=>False
theorem zgz(he:DV X e ta)(hl:DO X lo tl)(hu:DO X hi th):DE X (.Subscript e (.Slice lo hi none p2) pos) (dSl ta tl th):=⟨λpins s σ H H₀ σD Q I ok q=>by
 refine thn (zgr (SlR.or zjy zpg) he.pe hl.po hu.po pins s σ H (λv H'=>(∃d,Same H H'/\Rep X.K H' d v/\Q d)\/∃p vs xs,v=.ref p/\Same H H'/\H p=none/\H' p=some (.lst vs)/\Reps X.K H' xs vs/\Q (.list xs)) I ?_) λu s' ⟨v,H',I',r,z⟩=>?_
 ·exact⟨H₀,σD,_,ok,q,λv H1 d s1 r1 q1=>⟨H₀,σD,_,ok.after s1,q1,λl H2 s2 q2=>⟨H₀,σD,_,(ok.after s1).after s2,q2,λu H3 s3 q3=>by
   cases d with
   |list xs=>
    obtain⟨b,vs,rfl,hb,r⟩:=((r1.same s2).same s3).list.sq;exact .inl ⟨b,vs,rfl,hb,λp hp=>.inr ⟨p,_,_,rfl,((s1.trans s2).trans s3).trans (yk hp _),((s1.trans s2).trans s3).free hp,zx,(r.cut l u).same (yk hp _),q3⟩⟩
   |tuple xs=>
    obtain⟨b,vs,rfl,hb,r⟩:=((r1.same s2).same s3).tuple;exact .inr ⟨b,vs,rfl,hb,λp H4 s4 e4=>.inl ⟨_,((s1.trans s2).trans s3).trans s4,.tup e4 ((r.cut l u).same s4),q3⟩⟩
   |_=>exact q3.elim⟩⟩⟩
 ·rcases z with⟨d,sm,rp,qd⟩ |⟨p,vs,xs,rfl,sm,n,e,rp,qd⟩
  ·exact⟨v,H',d,I',r,sm,rp,qd⟩
  ·obtain⟨H'',J,sm',r'⟩:=j4 I' sm n e rp;exact⟨.ref p,H'',.list xs,J,r,sm',r',qd⟩⟩
def zfj(i:Nat)(tl th:DTO):DTF:=λσ Q=>match σ[i]? with
 |some (some (.scr ns))=>tl σ λl=>th σ λu=>Q ((v0 (ns.map PyData.int) l u))
 |_=>False
theorem zs7(i:Nat){x:Str}{pos':Pos}(hl:DO X lo tl)(hu:DO X hi th)(hN:X.N[i]?=some x:=by rfl)(hv:Vis X.env.scope x:=by first|exact Or.inl rfl|exact Or.inr (Or.inl rfl)|exact Or.inr (Or.inr rfl))(hd:(x ==("__debug__" : Str))=false:=by decide)
  (hcd:(x ==("__classdict__" : Str))=false:=by decide):DF X (.Subscript (.Name x pos') (.Slice lo hi none p2) pos) (zfj i tl th) :=
 DF.of (zgr zjy (kc (i:=i) hN hv hd hcd) hl.po hu.po) λσ H H₀ σD QD ok q=>by
  unfold zfj at q
  split at q
  ·next ns e=>
   obtain⟨b,e1,hb⟩:=ok.scr e;exact⟨_,e1,H₀,σD,_,ok,q,λl H2 s2 q2=>⟨H₀,σD,_,ok.after s2,q2,λu H3 s3 q3=>⟨b,_,rfl,s3.seq (s2.seq hb),λp hp=>⟨p,_,_,rfl,(s2.trans s3).trans (yk hp _),(s2.trans s3).free hp,zx,Reps.ints.cut l u,q3⟩⟩⟩⟩
  ·exact q.elim
def zcl(i:Nat):DTE:=λσ Q=>match σ[i]? with
 |some (some (.scr ns))=>Q (.int ns.length)
 |_=>False
theorem zlg(i:Nat){x:Str}{pos':Pos}(hg:Gl X "len")(hm:X.mg "len" = none)(hN:X.N[i]?=some x:=by rfl)(hv:Vis X.env.scope x:=by first|exact Or.inl rfl|exact Or.inr (Or.inl rfl)|exact Or.inr (Or.inr rfl))(hd:(x ==("__debug__" : Str))=false:=by decide)
  (hcd:(x ==("__classdict__" : Str))=false:=by decide):DE X (.Call (.Name "len" p) [.Name x pos'] [] pos) (zcl i) :=
 DE.of (zai zfb hg hm PySem.boot_len (wm (kc (i:=i) hN hv hd hcd) ke)) λσ H H₀ σD QD ok q=>by
  unfold zcl at q
  split at q
  ·next ns e=>
   obtain⟨b,e1,hb⟩:=ok.scr e;exact⟨_,e1,b,_,rfl,.inl hb,_,Same.refl _,.int,by rw[List.length_map];exact q⟩
  ·exact q.elim
def zfk(i:Nat)(tb:DTE):DTE:=λσ Q=>match σ[i]? with
 |some (some (.scr ns))=>tb σ λd=>match d with
  |.int k=>∃n,atI ns k=some n/\Q (.int n)
  |_=>False
 |_=>False
theorem zph{α β:Type}(f:α->β)(xs:List α)(i:Int):atI (xs.map f) i=(atI xs i).map f:=by
 unfold atI;rw[List.length_map]
 cases ixN xs.length i with
 |none=>rfl
 |some j=>simp
theorem zmw(i:Nat){x:Str}{pos':Pos}(hb:DE X b tb)(hs:ze9 b)(hN:X.N[i]?=some x:=by rfl)(hv:Vis X.env.scope x:=by first|exact Or.inl rfl|exact Or.inr (Or.inl rfl)|exact Or.inr (Or.inr rfl))(hd:(x ==("__debug__" : Str))=false:=by decide)
  (hcd:(x ==("__classdict__" : Str))=false:=by decide):DE X (.Subscript (.Name x pos') b pos) (zfk i tb) :=
 DE.of (zbw ix_list (kc (i:=i) hN hv hd hcd) hb.pe hs) λσ H H₀ σD QD ok q=>by
  unfold zfk at q
  split at q
  ·next ns e=>
   obtain⟨b,e1,hb⟩:=ok.scr e;refine⟨_,e1,H₀,σD,_,ok,q,λw H2 d2 s2 r2 q2=>?_⟩
   cases d2 with
   |int k=>
    cases r2;obtain⟨n,en,q⟩:=q2;exact⟨b,_,k,.int n,rfl,rfl,s2.seq hb,by rw[zph,en];rfl,_,s2,.int,q⟩
   |_=>exact q2.elim
  ·exact q.elim
end
structure ItOk(K:PySem.W.Frag)(Kp:Hp->Hp->Prop)(J:It)(H1:Hp)(ds:List D):Prop where
 go:∀H i d,Kp H1 H->ds[i]?=some d->J.go i H/\∀x H',J.yld i H x H'->Same H H'/\Rep K H' d x
 stop:∀H,Kp H1 H->J.stop ds.length H
theorem ItOk.weak{K:PySem.W.Frag}{J:It}{H1:Hp}{ds:List D}(h:ItOk K Pers J H1 ds):ItOk K Same J H1 ds:=⟨λH i d s=>h.go H i d s.pers,λH s=>h.stop H s.pers⟩
def cnI(K:PySem.W.Frag)(Kp:Hp->Hp->Prop)(t:DTF):TI:=λσ H R=>∃H₀ σD QD,DOk K H₀ H σD σ/\t σD QD/\∀J H1 ds,Same H H1->ItOk K Kp J H1 ds->QD ds->R J H1
structure DI(X:Cx)(tg iter:Expr)(t:DTF):Prop where
 pi:PI X tg iter (cnI X.K Pers t)
structure DIw(X:Cx)(tg iter:Expr)(t:DTF):Prop where
 pi:PI X tg iter (cnI X.K Same t)
section
variable {X:Cx}{tg iter e:Expr}{t:DTF}{te:DTE}{p pos:Pos}
theorem DI.w(h:DI X tg iter t):DIw X tg iter t:=⟨λpins s σ H R I zq56=>by obtain⟨H₀,σD,QD,ok,q,k⟩:=zq56;exact h.pi pins s σ H R I ⟨H₀,σD,QD,ok,q,λJ H1 ds s1 o qd=>k J H1 ds s1 o.weak qd⟩⟩
theorem zmx{l:Expr}{tl:TE}(hl:PE X l tl):PI X tg l (λσ H R=>tl σ H λx H1=>(∃a xs,x=.ref a/\SqL X.K H1 a xs/\R (Itl X.K a) H1)\/∃a xs,x=.ref a/\SqT X.K H1 a xs/\R (Itt X.K a) H1):=by
 intro pins s σ H R I h;refine thn (hl pins s σ H _ I h) λv s1 ⟨x,H1,I1,r1,q1⟩=>?_;rcases q1 with⟨a,xs,e,hq,q⟩ |⟨a,xs,e,hq,q⟩
 ·subst e
  cases r1;obtain⟨its,rv,p,hz⟩:=I1.list hq;refine wpAny_pyIter_list p.isList ?_;refine⟨s1.heap.objs.size,[s1.heap.objs.size],_,_,H1,rfl,I1.kept (t':=s1.toks) λb o e=>Heap.get?_push_of_some _ e,zk1 a _,⟨_,Heap.get?_push_size _ rfl,rfl,rfl⟩,λb hb=>?_,q⟩;have e:b=s1.heap.objs.size:=by simpa using hb
  subst e;exact I1.fpOk (Nat.le_refl _) (I1.hok.fresh (Nat.le_refl _))
 ·subst e
  cases r1;obtain⟨its,rv,p,hz⟩:=I1.tuple hq;refine wpAny_pyIter_tuple (show s1.heap.IsTuple a its.toArray from p) ?_;refine⟨s1.heap.objs.size,[s1.heap.objs.size],_,_,H1,rfl,I1.kept (t':=s1.toks) λb o e=>Heap.get?_push_of_some _ e,zh4 a _,⟨_,Heap.get?_push_size _ rfl,rfl,rfl⟩,λb hb=>?_,q⟩;have e:b=s1.heap.objs.size:=by simpa using hb
  subst e;exact I1.fpOk (Nat.le_refl _) (I1.hok.fresh (Nat.le_refl _))
def zj6(te:DTE):DTF:=λσ Q=>te σ λd=>match d with
 |.list xs=>Q xs
 |.tuple xs=>Q xs
 |_=>False
theorem zmy{K:PySem.W.Frag}{Kp:Hp->Hp->Prop}{H1:Hp}{a:Addr}{xs:List D}{vs:List V}(kp:∀H,Kp H1 H->SqL K H a vs/\Reps K H xs vs):ItOk K Kp (Itl K a) H1 xs where
 go:=λH i d k e=>by
  obtain⟨hs,r⟩:=kp H k;obtain⟨v,e1,r1⟩:=r.get e;refine⟨⟨vs,v,hs,e1⟩,λx H' y=>?_⟩;obtain⟨rfl,y⟩:=y;have:=y vs hs;rw[e1]at this
  cases this;exact⟨Same.refl _,r1⟩
 stop:=λH k=>by
  obtain⟨hs,r⟩:=kp H k;exact⟨vs,hs,by rw[r.length];exact Nat.le_refl _⟩
theorem zmz{K:PySem.W.Frag}{Kp:Hp->Hp->Prop}{H1:Hp}{a:Addr}{xs:List D}{vs:List V}(kp:∀H,Kp H1 H->SqT K H a vs/\Reps K H xs vs):ItOk K Kp (Itt K a) H1 xs where
 go:=λH i d k e=>by
  obtain⟨hs,r⟩:=kp H k;obtain⟨v,e1,r1⟩:=r.get e;refine⟨⟨vs,v,hs,e1⟩,λx H' y=>?_⟩;obtain⟨rfl,y⟩:=y;have:=y vs hs;rw[e1]at this
  cases this;exact⟨Same.refl _,r1⟩
 stop:=λH k=>by
  obtain⟨hs,r⟩:=kp H k;exact⟨vs,hs,by rw[r.length];exact Nat.le_refl _⟩
theorem Pers.sqF{K:PySem.W.Frag}{H H':Hp}{a:Addr}{o:Obj}{vs:List V}(p:Pers H H')(h:H a=some (.frz o (.lst vs))):SqL K H' a vs:=.inl (.inr ⟨o,p _ _ h rfl⟩)
theorem v4(h:DE X e te):DI X tg e (zj6 te):=⟨λpins s σ H R I ⟨H₀,σD,QD,ok,q,k⟩=>zmx h.pe pins s σ H R I ⟨H₀,σD,_,ok,q,λv H1 d s1 r1 q1=>by
 cases d with
 |list xs=>
  cases r1 with
  |lst hf r=>exact .inl ⟨_,_,rfl,.inl (.inr ⟨_,hf⟩),k _ _ xs s1 (zmy λH' pr=>⟨pr.sqF hf,r.mono pr⟩) q1⟩
 |tuple xs=>
  cases r1 with
  |tup hf r=>exact .inr ⟨_,_,rfl,hf,k _ _ xs s1 (zmz λH' pr=>⟨pr.sqT hf,r.mono pr⟩) q1⟩
 |_=>exact q1.elim⟩⟩
theorem RepL.sq'{K:PySem.W.Frag}{H H':Hp}{a:Addr}{vs:List V}(s:Same H H')(h:Rd H a (.lst vs)):SqL K H' a vs:=by
 rcases h with h |⟨o,h⟩
 ·exact .inl (.inl (s _ _ h))
 ·exact .inl (.inr ⟨o,s _ _ h⟩)
theorem x8(h:DV X e te):DIw X tg e (zj6 te):=⟨λpins s σ H R I ⟨H₀,σD,QD,ok,q,k⟩=>zmx h.pe pins s σ H R I ⟨H₀,σD,_,ok,q,λv H1 d s1 r1 q1=>by
 cases d with
 |list xs=>
  obtain⟨a,vs,rfl,hf,r⟩:=r1.list;exact .inl ⟨_,_,rfl,.inl hf,k _ _ xs s1 (zmy λH' pr=>⟨RepL.sq' pr hf,r.same pr⟩) q1⟩
 |tuple xs=>
  obtain⟨a,vs,rfl,hf,r⟩:=r1.tuple;exact .inr ⟨_,_,rfl,hf,k _ _ xs s1 (zmz λH' pr=>⟨pr.pers.sqT hf,r.same pr⟩) q1⟩
 |_=>exact q1.elim⟩⟩
def wa(lo:Int)(n:Nat):List D:=(List.range n).map λi=>.int (lo+(i:Nat))
theorem zs8{K:PySem.W.Frag}{Kp:Hp->Hp->Prop}{H1:Hp}(lo:Int)(n:Nat):ItOk K Kp (Itr lo n) H1 (wa lo n) where
 go:=λH i d k e=>by
  have hi:i<n:=by have:=(List.getElem?_eq_some_iff.mp e).1;simpa[wa]using this
  refine⟨hi,λx H' y=>?_⟩;obtain⟨rfl,rfl⟩:=y;refine⟨Same.refl _,?_⟩;simp[wa,List.getElem?_map,List.getElem?_range hi]at e;subst e;exact .int
 stop:=λH k=>by
  show n<=(wa lo n).length;simp[wa]
def zfl(ta:DTF):DTF:=λσ Q=>ta σ λds=>match ds with
 |[.int j]=>(-(2 ^ 62)<=j/\j<2 ^ 62)/\Q (wa 0 j.toNat)
 |_=>False
variable {a b:Expr}
theorem vv(hg:Gl X "range")(hm:X.mg "range" = none)(ha:DA X [a] t)(hs:starEach [a] X.env = [(false,eval a X.env)]:=by rfl):DI X tg (.Call (.Name "range" p) [a] [] pos) (zfl t) :=
 ⟨λpins s σ H R I ⟨H₀,σD,QD,ok,q,k⟩=>zk2 hg hm ha.pa hs pins s σ H R I ⟨H₀,σD,_,ok,q,λvs H1 ds s1 r1 q1=>by
  match ds,r1,q1 with
  |[.int j],r1,q1=>
   cases r1 with
   |cons r t=>
    cases t
    cases r;exact⟨j,rfl,q1.1.1,q1.1.2,k _ _ _ s1 (zs8 0 j.toNat) q1.2⟩⟩⟩
theorem Rep.seqP{K:PySem.W.Frag}{H:Hp}{d:D}{v:V}{xs:List D}(h:Rep K H d v)(e:d=.list xs\/d=.tuple xs):∃b a vs,v=.ref a/\∀H',Pers H H'->SqG b K H' a vs/\Reps K H' xs vs:=by
 cases h with
 |lst hf r=>
  rcases e with e|e
  ·cases e;exact⟨false,_,_,rfl,λH' p=>⟨p.sqF hf,r.mono p⟩⟩
  ·cases e
 |tup hf r=>
  rcases e with e|e
  ·cases e
  ·cases e;exact⟨true,_,_,rfl,λH' p=>⟨p.sqT hf,r.mono p⟩⟩
 |_=>rcases e with e|e <;> cases e
def kr:Nat->List D->List D
 |_,[]=>[]
 |k,x::xs=>.tuple [.int k,x]::kr (k+1) xs
theorem zer:∀{xs:List D}{k i:Nat}{x:D},(kr k xs)[i]?=some x->∃y,xs[i]?=some y/\x=.tuple [.int ((k+i:Nat):Int),y]
 |[],_,_,_,e=>by simp[kr]at e
 |y::ys,k,0,x,e=>by simp[kr]at e;subst e;exact⟨y,rfl,rfl⟩
 |y::ys,k,i+1,x,e=>by
  simp only[kr,List.getElem?_cons_succ]at e;obtain⟨z,e1,e2⟩:=zer e;refine⟨z,by simpa using e1,?_⟩;rw[e2,show k+1+i=k+(i+1) by omega]
theorem zes:∀(k:Nat) (xs:List D),(kr k xs).length=xs.length
 |_,[]=>rfl
 |k,_::xs=>by simp[kr,zes (k+1) xs]
abbrev DTG:=D->DSt->(DSt->Prop)->Prop
abbrev zfm:=List D->DSt->(DSt->Prop)->Prop
structure DG(X:Cx)(tg:Expr)(is:List Nat)(g:DTG):Prop where
 run:∀(pins:List (Addr×Obj)) (s:Shared) (σ:St) (H H₀:Hp) (σD:DSt) (v:V) (u:Value) (d:D) (Q:DSt->Prop),Inv X pins σ H s->DOk X.K H₀ H σD σ->RelV v u->Rep X.K H d v->g d σD Q ->
  wpAny (model X.prog X.w) X.A (assign tg X.env u) (λ_ s'=>∃σ' σD',Inv X pins σ' H s'/\DOk X.K H₀ H σD' σ'/\(∀j,j∉is->σ'[j]?=σ[j]?)/\Q σD') X.xe s
structure DGs(X:Cx)(ts:List Expr)(is:List Nat)(g:zfm):Prop where
 run:∀(pins:List (Addr×Obj)) (s:Shared) (σ:St) (H H₀:Hp) (σD:DSt) (vs:List V) (us:List Value) (ds:List D) (Q:DSt->Prop),Inv X pins σ H s->DOk X.K H₀ H σD σ->Vals vs us->Reps X.K H ds vs->g ds σD Q ->
  wpAny (model X.prog X.w) X.A (assignInOrder ((assignEach ts X.env).map (·.2)) us) (λ_ s'=>∃σ' σD',Inv X pins σ' H s'/\DOk X.K H₀ H σD' σ'/\(∀j,j∉is->σ'[j]?=σ[j]?)/\Q σD') X.xe s
def zfn(i:Nat):DTG:=λd σ Q=>Q (σ.set i (some (.val d)))
theorem zp{i:Nat}{x:Str}(hN:X.N.Nodup)(hi:X.N[i]?=some x)(hx:Loc X.env.scope x)(hf:X.fn x=true\/X.env.scope.names.lookup x=some .local:=by first|exact .inl rfl|exact .inr rfl|assumption):DG X (.Name x pos) [i] (zfn i) :=
 ⟨λpins s σ H H₀ σD v u d Q I ok r rp q=>wpAny_assign_Name (zag I hN hi hx r (λs' I'=>⟨_,_,I',ok.setV rp i,λj hj=>List.getElem?_set_ne (λz=>hj (by simp[z])),q⟩) hf)⟩
def zm0:zfm:=λds σ Q=>ds = []/\Q σ
def zik(g:DTG)(gs:zfm):zfm:=λds σ Q=>match ds with
 |d::r=>g d σ λσ'=>gs r σ' Q
 |[]=>False
theorem y1:DGs X [] [] zm0:=⟨λpins s σ H H₀ σD vs us ds Q I ok r rp q=>by
 obtain⟨rfl,q⟩:=q
 cases rp
 cases r;exact assignInOrder_nil ⟨σ,σD,I,ok,λ_ _=>rfl,q⟩⟩
theorem zv{e:Expr}{es:List Expr}{i1 i2:List Nat}{g:DTG}{gs:zfm}(h1:DG X e i1 g)(h2:DGs X es i2 gs)
  (hs:(assignEach (e::es) X.env).map (·.2)=assign e X.env::(assignEach es X.env).map (·.2):=by rfl):DGs X (e::es) (i1++i2) (zik g gs):=⟨λpins s σ H H₀ σD vs us ds Q I ok r rp q=>by
 cases rp with
 |nil=>exact q.elim
 |cons rd rds=>
  cases r with
  |cons r rr=>
   rw[hs];refine assignInOrder_cons (thn (h1.run pins s σ H H₀ σD _ _ _ _ I ok r rd q) λ_ s1 ⟨σ1,σD1,I1,ok1,f1,q1⟩=>?_);refine thn (h2.run pins s1 σ1 H H₀ σD1 _ _ _ Q I1 ok1 rr rds q1) λ_ s2 ⟨σ2,σD2,I2,ok2,f2,q2⟩=>⟨σ2,σD2,I2,ok2,λj hj=>?_,q2⟩
   rw[f2 j (λz=>hj (List.mem_append_right _ z)),f1 j (λz=>hj (List.mem_append_left _ z))]⟩
def zm1(n:Nat)(gs:zfm):DTG:=λd σ Q=>match d with
 |.tuple xs=>xs.length=n/\gs xs σ Q
 |_=>False
theorem zs9{es:List Expr}{k:Nat}{is:List Nat}{gs:zfm}{n:Nat}(hc:X.calm=true)(h:DGs X es is gs)(hn:(assignEach es X.env).length=n:=by rfl)(hst:(assignEach es X.env).findIdx? (·.1)=none:=by rfl):DG X (.Tuple es k pos) is (zm1 n gs):=⟨λpins s σ H H₀ σD v u d Q I ok r rp q=>by
 cases d with
 |tuple xs=>
  obtain⟨hl,q⟩:=q
  cases rp with
  |tup hq rr=>
   cases r;obtain⟨its,rv,ht,hz⟩:=I.tuple hq;refine assign_Tuple_tuple (I.ok.hd hc) ht (by simp[hn,<-hl,<-rv.length,rr.length]) hst λh' hx=>?_;have I1:Inv X pins σ H { s with heap:=h' }:=I.kept (t':=s.toks) λb o e=>hx b o (Nat.ne_of_lt (Heap.lt_size e)) e;exact h.run pins _ σ H H₀ σD _ _ xs Q I1 ok (by simpa using rv) rr q
 |_=>exact q.elim⟩
def lcD(f:D->(Option D->Prop)->Prop):List D->(List D->Prop)->Prop
 |[],Q=>Q []
 |d::ds,Q=>f d λo=>lcD f ds λys=>Q (match o with|some y=>y::ys|none=>ys)
def zg0:Option W->Option W
 |some (.own (.lst xs))=>some (.vw xs)
 |some (.own (.dct xs))=>some (.vd xs)
 |some (.own (.nst _ _))=>none
 |some (.own (.anc _ _))=>none
 |some (.own (.ins _ _))=>none
 |some (.own (.mix _))=>none
 |some (.tmp _)=>none
 |w=>w
def xw(k:Nat)(js:List Nat)(σ:DSt):DSt:=List.replicate k none++js.map λj=>zg0 (σ[j]?).join
def lcF(g:DTG)(tt:DTT)(te:DTE)(σ0:DSt):D->(Option D->Prop)->Prop:=λd k=>g d σ0 λσ2=>tt σ2 λb=>if b=true then te σ2 λy=>k (some y) else k none
def dLC(k:Nat)(js:List Nat)(ti:DTF)(g:DTG)(tt:DTT)(te:DTE):DTF:=λσ Q=>ti σ λds=>ds.length<=sizeLine/\lcD (lcF g tt te (xw k js σ)) ds Q
structure DTs(X:Cx)(ifs:List Expr)(t:DTT):Prop where
 pts:PTs X ifs (cnT X.K t)
def zm2:DTT:=λ_ Q=>Q true
theorem wc:DTs X [] zm2:=⟨λpins s σ H Q I zq37=>by obtain⟨H₀,σD,QD,ok,q,k⟩:=zq37;exact zo5 pins s σ H Q I (k true H (Same.refl _) q)⟩
theorem jn{c:Expr}{t:DTT}(h:DT X c t):DTs X [c] t:=⟨zo6 h.pt⟩
theorem Slots.keepN{K:PySem.W.Frag}{H₀ H:Hp}{σD:DSt}{σ:St}{fp:List Addr}(h:Slots K H₀ H σD σ fp):∀{σ':St},σ'.length=σ.length->(∀j:Nat,σD[j]?=some Option.none\/σ'[j]?=σ[j]?)->Slots K H₀ H σD σ' fp:=by
 induction h with
 |nil=>intro σ' hl _;cases σ' with
  |nil=>exact .nil
  |cons _ _=>simp at hl
 |none t ih=>
  intro σ' hl k
  cases σ' with
  |nil=>simp at hl
  |cons x σ'=>exact .none (ih (by simpa using hl) λj=>by simpa using k (j+1))
 |val r t ih=>
  intro σ' hl k
  cases σ' with
  |nil=>simp at hl
  |cons x σ'=>
   have:=k 0;simp at this;subst this;exact .val r (ih (by simpa using hl) λj=>by simpa using k (j+1))
 |vw r t ih=>
  intro σ' hl k
  cases σ' with
  |nil=>simp at hl
  |cons x σ'=>
   have:=k 0;simp at this;subst this;exact .vw r (ih (by simpa using hl) λj=>by simpa using k (j+1))
 |vd r t ih=>
  intro σ' hl k
  cases σ' with
  |nil=>simp at hl
  |cons x σ'=>
   have:=k 0;simp at this;subst this;exact .vd r (ih (by simpa using hl) λj=>by simpa using k (j+1))
 |exc r t ih=>
  intro σ' hl k
  cases σ' with
  |nil=>simp at hl
  |cons x σ'=>
   have:=k 0;simp at this;subst this;exact .exc r (ih (by simpa using hl) λj=>by simpa using k (j+1))
 |scr r t ih=>
  intro σ' hl k
  cases σ' with
  |nil=>simp at hl
  |cons x σ'=>
   have:=k 0;simp at this;subst this;exact .scr r (ih (by simpa using hl) λj=>by simpa using k (j+1))
 |pen r t ih=>
  intro σ' hl k
  cases σ' with
  |nil=>simp at hl
  |cons x σ'=>
   have:=k 0;simp at this;subst this;exact .pen r (ih (by simpa using hl) λj=>by simpa using k (j+1))
 |tmp r t ih=>
  intro σ' hl k
  cases σ' with
  |nil=>simp at hl
  |cons x σ'=>
   have:=k 0;simp at this;subst this;exact .tmp r (ih (by simpa using hl) λj=>by simpa using k (j+1))
 |own r t ih=>
  intro σ' hl k
  cases σ' with
  |nil=>simp at hl
  |cons x σ'=>
   have:=k 0;simp at this;subst this;exact .own r (ih (by simpa using hl) λj=>by simpa using k (j+1))
theorem DOk.keepN{K:PySem.W.Frag}{H₀ H:Hp}{σD:DSt}{σ σ':St}(h:DOk K H₀ H σD σ)(hl:σ'.length=σ.length)(k:∀j:Nat,σD[j]?=some Option.none\/σ'[j]?=σ[j]?):DOk K H₀ H σD σ':=let ⟨s,fp,sl,r⟩:=h;⟨s,fp,sl.keepN hl k,r⟩
theorem DOk.block{K:PySem.W.Frag}{H₀ H:Hp}{σD:DSt}{σ:St}(h:DOk K H₀ H σD σ)(k:Nat)(js:List Nat):DOk K H H (xw k js σD) (y8 k js σ):=by
 refine⟨Same.refl _,[],?_,List.nodup_nil,λa ha=>by cases ha⟩;have two:∀js:List Nat,Slots K H H (js.map λj=>zg0 (σD[j]?).join) (js.map λj=>(σ[j]?).join) []:=by
  intro js
  induction js with
  |nil=>exact .nil
  |cons j js ih=>
   simp only[List.map_cons];have nn:∀v,Slots K H H (none::js.map λj=>zg0 (σD[j]?).join) (v::js.map λj=>(σ[j]?).join) []:=λv=>.none ih
   cases e:σD[j]? with
   |none=>exact nn _
   |some o=>
    cases o with
    |none=>exact nn _
    |some w=>
     cases w with
     |val d=>
      obtain⟨v,e1,r⟩:=h.val e;rw[e1];exact .val r ih
     |vw xs=>
      obtain⟨v,e1,r⟩:=h.vw e;rw[e1];exact .vw r ih
     |vd xs=>
      obtain⟨v,e1,r⟩:=h.vd e;rw[e1];exact .vd r ih
     |exc xs=>
      obtain⟨v,e1,r⟩:=h.exc e;rw[e1];exact .exc r ih
     |scr ns=>
      obtain⟨a,e1,r⟩:=h.scr e;rw[e1];exact .scr r ih
     |pen=>
      obtain⟨a,e1,r⟩:=h.pen e;rw[e1];exact .pen r ih
     |tmp d=>exact nn _
     |own o=>
      cases o with
      |lst xs=>
       obtain⟨a,vs,e1,e2,r,_⟩:=h.ownL e;rw[e1];exact .vw ⟨a,vs,rfl,.inl e2,r⟩ ih
      |dct xs=>
       obtain⟨a,vs,e1,e2,r,_⟩:=h.ownD e;rw[e1];exact .vd ⟨a,vs,rfl,e2,r⟩ ih
      |nst xss ds=>exact nn _
      |anc _ _=>exact nn _
      |ins _ _=>exact nn _
      |mix _=>exact nn _
 unfold xw y8
 induction k with
 |zero=>exact two js
 |succ k ih=>exact .none ih
theorem zg1{g:DTG}{tt:DTT}{te:DTE}{k:Nat}{js is:List Nat}{σ:St}{σD:DSt}{H₀ H1:Hp}{J:It}{ds:List D}{QD:List D->Prop}{Dd:Addr}{gL:TG}(ok:DOk X.K H₀ H1 σD σ)(it:ItOk X.K Same J H1 ds)(hz:ds.length<=sizeLine)
  (hg:∀d v σ' H' Q (σ0:DSt),DOk X.K H1 H' σ0 σ'->Rep X.K H' d v->g d σ0 Q->gL v σ' H' (λσ2 H2=>H2=H'/\σ2.length=σ'.length/\(∀j,j∉is->σ2[j]?=σ'[j]?)/\∃σD2,DOk X.K H1 H' σD2 σ2/\Q σD2))
  (mono:∀v σ' H' (Q Q':St->Hp->Prop),(∀σ2 H2,Q σ2 H2->Q' σ2 H2)->gL v σ' H' Q->gL v σ' H' Q')
  (his:∀j∈is,j<k) (hn:H1 Dd=none) (q:lcD (lcF g tt te (xw k js σD)) ds QD) :
  zfd J Dd gL (cnT X.K tt) (cnE X.K te) (y8 k js σ) H1 (λv H'=>∃a vs xs,v=.ref a/\Same H1 H'/\H1 a=none/\H' a=some (.lst vs)/\Reps X.K H' xs vs/\QD xs):=by
 have sub:∀{Q1:List D->Prop}{i:Nat}{d:D},ds[i]?=some d->lcD (lcF g tt te (xw k js σD)) (ds.drop i) Q1=lcF g tt te (xw k js σD) d (λo=>lcD (lcF g tt te (xw k js σD)) (ds.drop (i+1)) λys=>Q1 (match o with|some y=>y::ys|none=>ys)):=λ{Q1 i d} e=>by
  obtain⟨hi,e'⟩:=List.getElem?_eq_some_iff.mp e;rw[List.drop_eq_getElem_cons hi,e'];rfl
 refine⟨λi m σ' H'=>m=ds.length-i/\i<=ds.length/\Same H1 H'/\σ'.length=(y8 k js σ).length/\(∀j,k<=j->σ'[j]?=(y8 k js σ)[j]?)/\∃acc vs,H' Dd=some (.lst vs)/\Reps X.K H' acc vs/\acc.length<=i/\lcD (lcF g tt te (xw k js σD)) (ds.drop i) (λys=>QD (acc++ys)),
  ⟨ds.length,rfl,Nat.zero_le _,yk hn _,rfl,λ_ _=>rfl,[],[],zx,.nil,Nat.le_refl _,q⟩,?_⟩
 rintro i m σ' H' ⟨rfl,hi,sm,hl,fr,acc,vs,eD,ra,la,q1⟩;have ok1:DOk X.K H1 H' (xw k js σD) σ':=by
  refine DOk.keepN ((ok.block k js).after sm) hl λj=>?_
  by_cases hj:j<k
  ·left;unfold xw;rw[List.getElem?_append_left (by simpa using hj),List.getElem?_replicate,if_pos hj]
  ·right;exact fr j (by omega)
 by_cases hlt:i<ds.length
 ·have e:ds[i]?=some ds[i]:=by simp[hlt]
  obtain⟨go,yl⟩:=it.go H' i ds[i] sm e;refine .inr ⟨go,λx H2 y=>?_⟩;obtain⟨s2,r2⟩:=yl x H2 y;rw[sub e]at q1;refine mono _ _ _ _ _ (λσ2 H3 z=>?_) (hg ds[i] x σ' H2 _ _ (ok1.after s2) r2 q1);obtain⟨rfl,l2,f2,σD2,ok2,q2⟩:=z;have fr2:∀j,k<=j->σ2[j]?=(y8 k js σ)[j]?:=λj hj=>by rw[f2 j (λz=>absurd (his j z) (by omega)),fr j hj]
  refine⟨H1,σD2,_,ok2,q2,λb H4 s4 q4=>?_⟩
  cases b with
  |true=>
   rw[if_pos rfl]at q4 ⊢;refine⟨H1,σD2,_,ok2.after s4,q4,λy H5 dy s5 r5 q5=>?_⟩;have eD5:=s5 _ _ (s4 _ _ (s2 _ _ eD));have ra5:=((ra.same s2).same s4).same s5;refine⟨vs,eD5,by rw[<-ra5.length];omega,ds.length-(i+1),by omega,rfl,hlt,?_,l2.trans hl,fr2,acc ++ [dy],vs ++ [y],zx,?_,by rw[List.length_append,List.length_singleton];omega,?_⟩
   ·exact Same.but (((sm.trans s2).trans s4).trans s5) hn But.write
   ·exact(ra5.append (.cons r5 .nil)).mono (vy eD5 rfl)
   ·simpa using q5
  |false=>
   rw[if_neg Bool.false_ne_true]at q4 ⊢;exact⟨ds.length-(i+1),by omega,rfl,hlt,(sm.trans s2).trans s4,l2.trans hl,fr2,acc,vs,s4 _ _ (s2 _ _ eD),(ra.same s2).same s4,by omega,by simpa using q4⟩
 ·have e:i=ds.length:=by omega
  subst e;rw[List.drop_length]at q1;refine .inl ⟨it.stop H' sm,Dd,vs,acc,rfl,sm,hn,eD,ra,?_⟩;have:lcD (lcF g tt te (xw k js σD)) [] (λys=>QD (acc++ys)):=q1;simpa[lcD]using this
def cnG(K:PySem.W.Frag)(is:List Nat)(g:DTG):TG:=λv σ H Q=>∃H₀ σD d QD,DOk K H₀ H σD σ/\Rep K H d v/\g d σD QD/\∀σ' σD',σ'.length=σ.length->DOk K H₀ H σD' σ'->(∀j,j∉is->σ'[j]?=σ[j]?)->QD σD'->Q σ' H
theorem DG.pg{is:List Nat}{g:DTG}(h:DG X tg is g):PG X tg (cnG X.K is g):=λpins s σ H v u Q I r zq87=>by obtain⟨H₀,σD,d,QD,ok,rp,q,k⟩:=zq87;exact thn (h.run pins s σ H H₀ σD v u d QD I ok r rp q) λ_ s' zq1=>by obtain⟨σ',σD',I',ok',f,qd⟩:=zq1;exact⟨σ',H,I',k σ' σD' (by rw[I'.len,I.len]) ok' f qd⟩
variable {elt:Expr}{ifs:List Expr}{scope:Scope}{cl:List (Str×Addr)}{N' capt:List Str}{k:Nat}{js is:List Nat}{ti:DTF}{g:DTG}{tt:DTT}{te:DTE}
theorem v5(hc:X.calm=true)(L:zd6 X scope cl N' capt k js)
  (hi:DIw X tg iter ti) (hg:∀C fp s2 H2,DG (yj X N' scope cl C fp s2 H2) tg is g) (ht:∀C fp s2 H2,DTs (yj X N' scope cl C fp s2 H2) ifs tt) (he:∀C fp s2 H2,DE (yj X N' scope cl C fp s2 H2) elt te)
  (his:∀j∈is,j<k:=by decide) (hs:∀x,foldedSetIterable iter X.env x=pure x:=by intro _;rfl):DF X (.ListComp elt [⟨tg,iter,ifs,0⟩] scope pos) (dLC k js ti g tt te) :=
 DF.of (zu4 hc L hi.pi (λC fp s2 H2=>(hg C fp s2 H2).pg) (λC fp s2 H2=>(ht C fp s2 H2).pts) (λC fp s2 H2=>(he C fp s2 H2).pe) hs) λσ H H₀ σD QD ok q=>⟨H₀,σD,_,ok,q,λJ H1 ds s1 it q1 Dd hn=>by
  have z:=zg1 (k:=k) (js:=js) (is:=is) (gL:=cnG X.K is g) (Dd:=Dd) (ok.after s1) it q1.1 (λd v σ' H' Q σ0 ok0 r0 q0=>⟨H1,σ0,d,Q,ok0,r0,q0,λσ2 σD2 l2 ok2 f2 q2=>⟨rfl,l2,f2,σD2,ok2,q2⟩⟩)
   (λv σ' H' Q Q' m zq7=>by obtain⟨a,b,c,d,e1,e2,e3,e4⟩:=zq7;exact⟨a,b,c,d,e1,e2,e3,λσ2 σD2 l o f q=>m _ _ (e4 σ2 σD2 l o f q)⟩) his hn q1.2
  obtain⟨W,w0,turn⟩:=z;refine⟨W,w0,λi m σ' H' w=>?_⟩;rcases turn i m σ' H' w with⟨st,a,vs,xs,e,sm,n,e2,r,qd⟩|h
  ·exact .inl ⟨st,a,vs,xs,e,s1.trans sm,s1.free n,e2,r,qd⟩
  ·exact .inr h⟩
end
inductive Ret where
 |val (d:D)|new (xs:List D)
def Ret.d:Ret->D
 |.val d=>d
 |.new xs=>.list xs
abbrev DSp:=List W->(Ret->Prop)->Prop
def zfo(K:PySem.W.Frag)(H H':Hp):Ret->V->Prop
 |.val d,v=>Rep K H' d v
 |.new xs,v=>∃a vs,v=.ref a/\H a=none/\H' a=some (.lst vs)/\Reps K H' xs vs
def z4(K:PySem.W.Frag)(sp:DSp):Sp:=λvs H Q _=>∃ws QD,RepWs K H ws vs/\sp ws QD/\∀v H' r,Same H H'->zfo K H H' r v->QD r->Q v H'
def zj7(sp:DSp)(t:DTP):DTE:=λσ Q=>t σ λws=>sp ws λr=>Q r.d
def zil(sp:DSp)(t:DTP):DTF:=λσ Q=>t σ λws=>sp ws λr=>match r with
 |.new xs=>Q xs
 |.val _=>False
section
variable {X:Cx}{e:Expr}{es:List Expr}{k k':Nat}{x:Str}{ps:List Str}{sp:DSp}{t:DTP}{p pos:Pos}
theorem zg2{pins:List (Addr×Obj)}{σ:St}{H H₀:Hp}{σD:DSt}{s:Shared}{Q:Ret->Prop}(C:yd X.prog X.w X.K X.mg X.base k x ps (z4 X.K sp))(hr:Room k' X.A)(hg:Gl X x)(ha:DPs X (e::es) t)(hk:k<=k')
  (hdb:(x ==("__debug__" : Str))=false) (he:starEach (e::es) X.env=(false,eval e X.env)::starEach es X.env) (hpl:(backTo pos (starEach es X.env)).any (·.1)=false) (I:Inv X pins σ H s) (ok:DOk X.K H₀ H σD σ) (q:t σD λws=>sp ws Q) :
  wpAny (model X.prog X.w) X.A (eval (.Call (.Name x p) (e::es) [] pos) X.env) (λu s'=>∃v H' r,Inv X pins σ H' s'/\RelV v u/\Same H H'/\zfo X.K H H' r v/\Q r) X.xe s:=by
 refine thn (zcv C hr hg ha.pa hk hdb he hpl pins s σ H (λv H'=>∃r,Same H H'/\zfo X.K H H' r v/\Q r) I ?_) λu s' zq26=>by obtain⟨v,H',I',r,z,sm,rp,qd⟩:=zq26;exact⟨v,H',z,I',r,sm,rp,qd⟩
 refine⟨H₀,σD,_,ok,q,λvs H1 ws s1 r1 q1=>⟨ws,Q,by rw[List.append_nil];exact r1,q1,λv H' r s2 rp qd=>⟨r,s1.trans s2,?_,qd⟩⟩⟩
 cases r with
 |val d=>exact rp
 |new xs=>obtain⟨a,vs,e1,n,e2,r⟩:=rp;exact⟨a,vs,e1,s1.free n,e2,r⟩
theorem zj(C:yd X.prog X.w X.K X.mg X.base k x ps (z4 X.K sp))(hr:Room k' X.A)(hg:Gl X x)(ha:DPs X (e::es) t)(hk:k<=k':=by decide)(hdb:(x ==("__debug__" : Str))=false:=by decide)
  (he:starEach (e::es) X.env=(false,eval e X.env)::starEach es X.env:=by rfl) (hpl:(backTo pos (starEach es X.env)).any (·.1)=false:=by rfl):DE X (.Call (.Name x p) (e::es) [] pos) (zj7 sp t) :=
 ⟨λpins s σ H H₀ σD Q I ok q=>thn (zg2 C hr hg ha hk hdb he hpl I ok q) λu s' zq83=>by
  obtain⟨v,H',r,I',rv,sm,rp,qd⟩:=zq83
  cases r with
  |val d=>exact⟨v,H',d,I',rv,sm,rp,qd⟩
  |new xs=>
   obtain⟨a,vs,rfl,n,e,r⟩:=rp;obtain⟨H'',J,sm',r'⟩:=j4 I' sm n e r;exact⟨.ref a,H'',.list xs,J,rv,sm',r',qd⟩⟩
theorem zpi(C:yd X.prog X.w X.K X.mg X.base k x ps (z4 X.K sp))(hr:Room k' X.A)(hg:Gl X x)(ha:DPs X (e::es) t)(hk:k<=k':=by decide)(hdb:(x ==("__debug__" : Str))=false:=by decide)
  (he:starEach (e::es) X.env=(false,eval e X.env)::starEach es X.env:=by rfl) (hpl:(backTo pos (starEach es X.env)).any (·.1)=false:=by rfl):DF X (.Call (.Name x p) (e::es) [] pos) (zil sp t) :=
 ⟨λpins s σ H H₀ σD Q I ok q=>thn (zg2 C hr hg ha hk hdb he hpl I ok q) λu s' zq83=>by
  obtain⟨v,H',r,I',rv,sm,rp,qd⟩:=zq83
  cases r with
  |val d=>exact qd.elim
  |new xs=>
   obtain⟨a,vs,rfl,n,e,r⟩:=rp;exact⟨a,H',vs,xs,rv,I',sm,n,e,r,qd⟩⟩
end
structure vj where
 nx:DSt->Prop
 rt:Ret->Prop
 bk:DSt->Prop:=λ_=>False
 ct:DSt->Prop:=λ_=>False
abbrev DTS:=vj->DSt->Prop
def DSP(X:Cx)(pins:List (Addr×Obj))(H₀ H:Hp)(Dn:vj)(f:Flow)(s':Shared):Prop :=
 match f with
 |.next=>∃σ' H' σD',Inv X pins σ' H' s'/\DOk X.K H₀ H' σD' σ'/\Pers H H'/\Dn.nx σD'
 |.brk=>∃σ' H' σD',Inv X pins σ' H' s'/\DOk X.K H₀ H' σD' σ'/\Pers H H'/\Dn.bk σD'
 |.cont=>∃σ' H' σD',Inv X pins σ' H' s'/\DOk X.K H₀ H' σD' σ'/\Pers H H'/\Dn.ct σD'
 |.ret u=>∃v σ' H' r,Inv X pins σ' H' s'/\RelV v u/\Same H₀ H'/\zfo X.K H₀ H' r v/\Dn.rt r
structure DS(X:Cx)(st:Stmt)(t:DTS):Prop where
 run:∀(pins:List (Addr×Obj)) (s:Shared) (σ:St) (H H₀:Hp) (σD:DSt) (Dn:vj),Inv X pins σ H s->DOk X.K H₀ H σD σ->t Dn σD->wpAny (model X.prog X.w) X.A (exec st X.env) (DSP X pins H₀ H Dn) X.xe s
structure DSs(X:Cx)(st:List Stmt)(t:DTS):Prop where
 run:∀(pins:List (Addr×Obj)) (s:Shared) (σ:St) (H H₀:Hp) (σD:DSt) (Dn:vj),Inv X pins σ H s->DOk X.K H₀ H σD σ->t Dn σD->wpAny (model X.prog X.w) X.A (execs st X.env) (DSP X pins H₀ H Dn) X.xe s
theorem DSP.back{X:Cx}{pins:List (Addr×Obj)}{H₀ H H1:Hp}{Dn:vj}{f:Flow}{s':Shared}(p:Pers H H1)(h:DSP X pins H₀ H1 Dn f s'):DSP X pins H₀ H Dn f s':=by
 cases f with
 |next=>obtain⟨a,b,c,e1,e2,e3,e4⟩:=h;exact⟨a,b,c,e1,e2,p.trans e3,e4⟩
 |brk=>obtain⟨a,b,c,e1,e2,e3,e4⟩:=h;exact⟨a,b,c,e1,e2,p.trans e3,e4⟩
 |cont=>obtain⟨a,b,c,e1,e2,e3,e4⟩:=h;exact⟨a,b,c,e1,e2,p.trans e3,e4⟩
 |ret u=>exact h
def zm3(K:PySem.W.Frag)(H₀ H:Hp)(Dn:vj):zh2 where
 nx:=λσ' H'=>∃σD',DOk K H₀ H' σD' σ'/\Pers H H'/\Dn.nx σD'
 bk:=λσ' H'=>∃σD',DOk K H₀ H' σD' σ'/\Pers H H'/\Dn.bk σD'
 ct:=λσ' H'=>∃σD',DOk K H₀ H' σD' σ'/\Pers H H'/\Dn.ct σD'
 rt:=λv H'=>∃r,Same H₀ H'/\zfo K H₀ H' r v/\Dn.rt r
section
variable {X:Cx}{st:Stmt}{sts rest:List Stmt}{t u:DTS}{e:Expr}{te:DTE}{tf:DTF}{pos:Pos}
theorem SP.dsp{pins:List (Addr×Obj)}{H₀ H:Hp}{Dn:vj}{f:Flow}{s':Shared}(h:SP X pins (zm3 X.K H₀ H Dn) f s'):DSP X pins H₀ H Dn f s':=by
 cases f with
 |next=>obtain⟨a,b,e1,c,e2,e3,e4⟩:=h;exact⟨a,b,c,e1,e2,e3,e4⟩
 |brk=>obtain⟨a,b,e1,c,e2,e3,e4⟩:=h;exact⟨a,b,c,e1,e2,e3,e4⟩
 |cont=>obtain⟨a,b,e1,c,e2,e3,e4⟩:=h;exact⟨a,b,c,e1,e2,e3,e4⟩
 |ret u=>obtain⟨v,a,b,e1,e2,r,e3,e4,e5⟩:=h;exact⟨v,a,b,r,e1,e2,e3,e4,e5⟩
theorem DS.of{t':TS}(h:PS X st t')(k:∀σ H H₀ σD Dn,DOk X.K H₀ H σD σ->t Dn σD->t' (zm3 X.K H₀ H Dn) σ H):DS X st t :=
 ⟨λpins s σ H H₀ σD Dn I ok q=>thn (h pins s σ H _ I (k σ H H₀ σD Dn ok q)) λ_ _ z=>z.dsp⟩
def cnS(K:PySem.W.Frag)(t:DTS):TS:=λE σ H=>∃H₀ σD Dn,DOk K H₀ H σD σ/\t Dn σD/\(∀σ' H' σD',DOk K H₀ H' σD' σ'->Pers H H'->Dn.nx σD'->E.nx σ' H')/\(∀v H' r,Same H₀ H'->zfo K H₀ H' r v->Dn.rt r->E.rt v H') /\
 (∀σ' H' σD',DOk K H₀ H' σD' σ'->Pers H H'->Dn.bk σD'->E.bk σ' H')/\∀σ' H' σD',DOk K H₀ H' σD' σ'->Pers H H'->Dn.ct σD'->E.ct σ' H'
theorem DSs.ps(h:DSs X sts t):PSs X sts (cnS X.K t):=λpins s σ H E I ⟨H₀,σD,Dn,ok,q,k1,k2,k3,k4⟩=>thn (h.run pins s σ H H₀ σD Dn I ok q) λf s' z=>by
 cases f with
 |next=>obtain⟨a,b,c,e1,e2,e3,e4⟩:=z;exact⟨a,b,e1,k1 a b c e2 e3 e4⟩
 |brk=>obtain⟨a,b,c,e1,e2,e3,e4⟩:=z;exact⟨a,b,e1,k3 a b c e2 e3 e4⟩
 |cont=>obtain⟨a,b,c,e1,e2,e3,e4⟩:=z;exact⟨a,b,e1,k4 a b c e2 e3 e4⟩
 |ret u=>obtain⟨v,a,b,r,e1,e2,e3,e4,e5⟩:=z;exact⟨v,a,b,e1,e2,k2 v b r e3 e4 e5⟩
def zm4:DTS:=λDn σ=>Dn.nx σ
def zpj(t u:DTS):DTS:=λDn σ=>t { Dn with nx:=u Dn } σ
theorem z3:DSs X [] zm4:=⟨λ_ _ σ H _ σD _ I ok h=>wpAny_execs_nil ⟨σ,H,σD,I,ok,Pers.refl _,h⟩⟩
theorem zf(h1:DS X st t)(h2:DSs X rest u):DSs X (st::rest) (zpj t u):=⟨λpins s σ H H₀ σD Dn I ok q=>by
 refine wpAny_execs_cons (thn (h1.run pins s σ H H₀ σD { Dn with nx:=u Dn } I ok q) λf s1 z=>?_)
 cases f with
 |next=>
  obtain⟨σ',H',σD',I',ok',p,q'⟩:=z;exact thn (h2.run pins s1 σ' H' H₀ σD' Dn I' ok' q') λ_ _ y=>y.back p
 |ret v=>exact z
 |brk=>exact z
 |cont=>exact z⟩
theorem ze(h1:DS X st t):DSs X [st] t:=⟨λpins s σ H H₀ σD Dn I ok q=>by
 refine wpAny_execs_cons (thn (h1.run pins s σ H H₀ σD Dn I ok q) λf s1 z=>?_)
 cases f with
 |next=>exact wpAny_execs_nil z
 |ret v=>exact z
 |brk=>exact z
 |cont=>exact z⟩
def zim:DTS:=λ_ _=>False
theorem w5:DS X st zim:=⟨λ_ _ _ _ _ _ _ _ _ h=>h.elim⟩
def zpk(i:Nat)(t:DTS):DTS:=λDn σ=>match σ[i]? with
 |some (some (.own (.lst xs)))=>t Dn (σ.set i (some (.val (.list xs))))
 |_=>False
theorem zin{K:PySem.W.Frag}{H:Hp}{xss:List (List D)}{ds:List D}{v:V}{f1 f2:List Addr}(r:RepO K H (.nst xss ds) v f1)(r2:RepO K H (.nst xss ds) v f2):f1=f2:=by
 obtain⟨a,as,us,rfl,rfl,e,n,_⟩:=r;obtain⟨a2,as2,us2,e0,rfl,e2,n2,_⟩:=r2
 cases e0;rw[e]at e2;have h1:as.map V.ref++us=as2.map V.ref++us2:=HO.lst.inj (Option.some.inj e2);have h2:as.map V.ref=as2.map V.ref:=(List.append_inj h1 (by rw[List.length_map,List.length_map,n.len,n2.len])).1;have h3:as=as2:=(List.map_inj_right λx y h=>V.ref.inj h).mp h2;rw[h3]
theorem RepO.fp{K:PySem.W.Frag}{H:Hp}{o:O}{v:V}{f1 f2:List Addr}(r:RepO K H o v f1)(r2:RepO K H o v f2):f1=f2:=by
 induction o with
 |lst xs=>
  obtain⟨b,_,eb,rfl,_⟩:=r;obtain⟨b2,_,eb2,rfl,_⟩:=r2;rw[eb]at eb2
  cases eb2;rfl
 |dct xs=>
  obtain⟨b,_,eb,rfl,_⟩:=r;obtain⟨b2,_,eb2,rfl,_⟩:=r2;rw[eb]at eb2
  cases eb2;rfl
 |nst xss ds=>exact zin r r2
 |anc a o ih=>exact ih r.2 r2.2
 |mix ms=>
  obtain⟨a,us,bs,rfl,rfl,e1,m⟩:=r;obtain⟨a2,us2,bs2,e0,rfl,e2,m2⟩:=r2
  cases e0;rw[e1]at e2
  cases e2;rw[m.fp m2]
 |ins c fs=>
  obtain⟨a,dx,C,fv,rfl,rfl,_,e1,_⟩:=r;obtain⟨a2,dx2,C2,fv2,e0,rfl,_,e2,_⟩:=r2
  cases e0;rw[e1]at e2
  cases e2;rfl
theorem DOk.frz{pins:List (Addr×Obj)}{s:Shared}{σ:St}{H H₀:Hp}{σD:DSt}{i:Nat}{xs:List D}(I:Inv X pins σ H s)(ok:DOk X.K H₀ H σD σ)(e:σD[i]?=some (some (.own (.lst xs)))):∃H',Inv X pins σ H' s/\DOk X.K H₀ H' (σD.set i (some (.val (.list xs)))) σ/\Pers H H':=by
 obtain⟨a,vs,e1,e2,r,n⟩:=ok.ownL e;obtain⟨o,J⟩:=I.frz e2;have ps:Pers H (upd H a (.frz o (.lst vs))):=vy e2 rfl;refine⟨_,J,?_,ps⟩;obtain⟨s0,fp,sl,nd,fr⟩:=id ok;have sm:Same H₀ (upd H a (.frz o (.lst vs))):=λb u hb=>by rw[zw (yi hb n)];exact s0 b u hb
 have hi:i<σD.length:=(List.getElem?_eq_some_iff.mp e).1
 -- the slot is forgotten first,then filled with the value
 obtain⟨_,fp1,sl1,nd1,fr1⟩:DOk X.K H₀ H (σD.set i none) (σ.set i (some (.ref a))):=ok.setN (some (.ref a)) i;have eσ:σ.set i (some (.ref a))=σ:=by
  refine List.ext_getElem? λj=>?_
  by_cases hj:i=j
  ·subst hj;rw[List.getElem?_set_self (by rw[<-ok.len];exact hi),e1]
  ·rw[List.getElem?_set_ne hj]
 rw[eσ]at sl1;have off:a∉fp1:=λha=>by
  -- every slot's own addresses apart: a belongs to slot i alone
  have key:∀{σD:DSt}{σ:St}{fp:List Addr},Slots X.K H₀ H σD σ fp->fp.Nodup->∀{i:Nat},σD[i]?=some (some (.own (.lst xs)))->σ[i]?=some (some (.ref a))->∀{fp1:List Addr},Slots X.K H₀ H (σD.set i none) σ fp1->a∉fp1:=by
   intro σD σ fp h;have det:∀{σD:DSt}{σ:St}{f1 f2:List Addr},Slots X.K H₀ H σD σ f1->Slots X.K H₀ H σD σ f2->f1=f2:=by
    intro σD σ f1 f2 h1
    induction h1 generalizing f2 with
    |nil=>intro h2;cases h2;rfl
    |none _ ih=>intro h2;cases h2 with|none t=>exact ih t
    |val _ _ ih=>intro h2;cases h2 with|val _ t=>exact ih t
    |vw _ _ ih=>intro h2;cases h2 with|vw _ t=>exact ih t
    |vd _ _ ih=>intro h2;cases h2 with|vd _ t=>exact ih t
    |exc _ _ ih=>intro h2;cases h2 with|exc _ t=>exact ih t
    |scr _ _ ih=>intro h2;cases h2 with|scr _ t=>exact ih t
    |pen _ _ ih=>intro h2;cases h2 with|pen _ t=>exact ih t
    |tmp _ _ ih=>intro h2;cases h2 with|tmp _ t=>exact ih t
    |@own o v f ws vs fp r _ ih=>
     intro h2
     cases h2 with
     |own r2 t=>
      cases o with
      |lst xs=>
       obtain⟨b,_,eb,rfl,_⟩:=r;obtain⟨b2,_,eb2,rfl,_⟩:=r2;rw[eb]at eb2
       cases eb2;rw[ih t]
      |dct xs=>
       obtain⟨b,_,eb,rfl,_⟩:=r;obtain⟨b2,_,eb2,rfl,_⟩:=r2;rw[eb]at eb2
       cases eb2;rw[ih t]
      |nst xss ds=>
       rw[zin r r2,ih t]
      |anc _ _=>rw[RepO.fp r r2,ih t]
      |ins _ _=>rw[RepO.fp r r2,ih t]
      |mix _=>rw[RepO.fp r r2,ih t]
   induction h with
   |nil=>intro _ i e;simp at e
   |none t ih=>
    intro nd i e ev fp1 h1
    cases i with
    |zero=>simp at e
    |succ i=>cases h1 with|none t1=>exact ih nd (by simpa using e) (by simpa using ev) t1
   |val r t ih=>
    intro nd i e ev fp1 h1
    cases i with
    |zero=>simp at e
    |succ i=>cases h1 with|val _ t1=>exact ih nd (by simpa using e) (by simpa using ev) t1
   |vw r t ih=>
    intro nd i e ev fp1 h1
    cases i with
    |zero=>simp at e
    |succ i=>cases h1 with|vw _ t1=>exact ih nd (by simpa using e) (by simpa using ev) t1
   |vd r t ih=>
    intro nd i e ev fp1 h1
    cases i with
    |zero=>simp at e
    |succ i=>cases h1 with|vd _ t1=>exact ih nd (by simpa using e) (by simpa using ev) t1
   |exc r t ih=>
    intro nd i e ev fp1 h1
    cases i with
    |zero=>simp at e
    |succ i=>cases h1 with|exc _ t1=>exact ih nd (by simpa using e) (by simpa using ev) t1
   |scr r t ih=>
    intro nd i e ev fp1 h1
    cases i with
    |zero=>simp at e
    |succ i=>cases h1 with|scr _ t1=>exact ih nd (by simpa using e) (by simpa using ev) t1
   |pen r t ih=>
    intro nd i e ev fp1 h1
    cases i with
    |zero=>simp at e
    |succ i=>cases h1 with|pen _ t1=>exact ih nd (by simpa using e) (by simpa using ev) t1
   |tmp r t ih=>
    intro nd i e ev fp1 h1
    cases i with
    |zero=>simp at e
    |succ i=>cases h1 with|tmp _ t1=>exact ih nd (by simpa using e) (by simpa using ev) t1
   |@own o v f ws wvs fp' r t ih=>
    intro nd i e ev fp1 h1;rw[List.nodup_append]at nd
    cases i with
    |zero=>
     simp at e ev;subst e ev;obtain⟨b,_,eb,rfl,_⟩:=r
     cases eb
     cases h1 with
     |none t1=>
      rw[det t1 t];exact λz=>nd.2.2 _ (by simp) _ z rfl
    |succ i=>
     have e':ws[i]?=some (some (.own (.lst xs))):=by simpa using e
     have ev':wvs[i]?=some (some (.ref a)):=by simpa using ev
     cases h1 with
     |own r1 t1=>
      intro z;rcases List.mem_append.mp z with z|z
      ·obtain⟨v',e1,f',⟨b,zs,rfl,rfl,hb,rb⟩,m⟩:=t.get e';rw[ev']at e1
       cases e1
       cases o with
       |lst ys=>
        obtain⟨b1,_,eb1,rfl,_⟩:=r;obtain⟨b2,_,eb2,rfl,_⟩:=r1;rw[eb1]at eb2
        cases eb2;exact nd.2.2 a z a (m a (by simp)) rfl
       |dct ys=>
        obtain⟨b1,_,eb1,rfl,_⟩:=r;obtain⟨b2,_,eb2,rfl,_⟩:=r1;rw[eb1]at eb2
        cases eb2;exact nd.2.2 a z a (m a (by simp)) rfl
       |nst yss ds=>
        rw[<-zin r r1]at z;exact nd.2.2 a z a (m a (by simp)) rfl
       |anc _ _=>
        rw[<-RepO.fp r r1]at z;exact nd.2.2 a z a (m a (by simp)) rfl
       |ins _ _=>
        rw[<-RepO.fp r r1]at z;exact nd.2.2 a z a (m a (by simp)) rfl
       |mix _=>
        rw[<-RepO.fp r r1]at z;exact nd.2.2 a z a (m a (by simp)) rfl
      ·exact ih nd.2.1 e' ev' t1 z
  exact key sl nd e e1 sl1 ha
 have sl2:Slots X.K H₀ (upd H a (.frz o (.lst vs))) (σD.set i none) σ fp1:=sl1.keep ps (λh=>h.frz e2) λb hb w hw=>by rw[zw (λz=>off (by rw[<-z];exact hb))];exact hw
 have fin:DOk X.K H₀ (upd H a (.frz o (.lst vs))) (σD.set i none) σ:=⟨sm,fp1,sl2,nd1,fr1⟩
 have:=fin.setV (d:=.list xs) (v:=.ref a) (.lst zx (r.mono ps)) i;rw[List.set_set,eσ]at this;exact this
theorem zta(i:Nat)(h:DS X st t):DS X st (zpk i t):=⟨λpins s σ H H₀ σD Dn I ok q=>by
 unfold zpk at q
 split at q
 ·next xs e=>
  obtain⟨H',I',ok',p⟩:=DOk.frz I ok e;exact thn (h.run pins s σ H' H₀ _ Dn I' ok' q) λ_ _ z=>z.back p
 ·exact q.elim⟩
def ztb(te:DTE):DTS:=λDn σ=>te σ λd=>Dn.rt (.val d)
def zm5(tf:DTF):DTS:=λDn σ=>tf σ λxs=>Dn.rt (.new xs)
theorem zq(he:DE X e te):DS X (.Return (some e) pos) (ztb te) :=
 DS.of (ze4 he.pe) λσ H H₀ σD Dn ok q=>⟨H₀,σD,_,ok,q,λv H1 d s1 r1 q1=>⟨.val d,ok.same.trans s1,r1,q1⟩⟩
theorem zcm(he:DF X e tf):DS X (.Return (some e) pos) (zm5 tf) :=
 DS.of (ze4 he.pe) λσ H H₀ σD Dn ok q=>⟨H₀,σD,_,ok,q,λa H1 vs xs s1 n e r1 q1=>⟨.new xs,ok.same.trans s1,⟨a,vs,rfl,ok.same.free n,e,r1⟩,q1⟩⟩
def zm6(i:Nat)(te:DTE):DTS:=λDn σ=>te σ λd=>Dn.nx (σ.set i (some (.val d)))
def zm7(i:Nat)(tf:DTF):DTS:=λDn σ=>tf σ λxs=>Dn.nx (σ.set i (some (.own (.lst xs))))
def zm8(i:Nat)(tf:DTF):DTS:=λDn σ=>tf σ λxs=>(∃a b c:Int,xs = [.int a,.int b,.int c])/\Dn.nx (σ.set i (some .pen))
theorem xi{i:Nat}{x:Str}{pos':Pos}(hN:X.N.Nodup)(hi:X.N[i]?=some x)(hx:Loc X.env.scope x)(he:DE X e te)(hs:swapsWith e (some (.Name x pos')) pos.line X.env=pure false:=by rfl)(hf:X.fn x=true\/X.env.scope.names.lookup x=some .local:=by first|exact .inl rfl|exact .inr rfl|assumption):
  DS X (.Assign [.Name x pos'] e pos) (zm6 i te) :=
 DS.of (ze6 hN hi hx he.pe hs hf) λσ H H₀ σD Dn ok q=>⟨H₀,σD,_,ok,q,λv H1 d s1 r1 q1=>⟨_,(ok.after s1).setV r1 i,s1.pers,q1⟩⟩
theorem zal{i:Nat}{x:Str}{pos':Pos}(hN:X.N.Nodup)(hi:X.N[i]?=some x)(hx:Loc X.env.scope x)(he:DF X e tf)(hs:swapsWith e (some (.Name x pos')) pos.line X.env=pure false:=by rfl)(hf:X.fn x=true\/X.env.scope.names.lookup x=some .local:=by first|exact .inl rfl|exact .inr rfl|assumption):
  DS X (.Assign [.Name x pos'] e pos) (zm7 i tf) :=
 DS.of (ze6 hN hi hx he.pe hs hf) λσ H H₀ σD Dn ok q=>⟨H₀,σD,_,ok,q,λa H1 vs xs s1 n e r1 q1=>⟨_,ok.setO s1 n e r1 i,s1.pers,q1⟩⟩
theorem zpl{i:Nat}{x:Str}{pos':Pos}(hN:X.N.Nodup)(hi:X.N[i]?=some x)(hx:Loc X.env.scope x)(he:DF X e tf)(hs:swapsWith e (some (.Name x pos')) pos.line X.env=pure false:=by rfl)(hf:X.fn x=true\/X.env.scope.names.lookup x=some .local:=by first|exact .inl rfl|exact .inr rfl|assumption):
  DS X (.Assign [.Name x pos'] e pos) (zm8 i tf):=⟨λpins s σ H H₀ σD Dn I ok q=>by
 refine thn (ze6 hN hi hx he.pe hs hf pins s σ H { nx:=λσ' H'=>∃a,Same H H'/\H a=none/\σ'=σ.set i (some (.ref a))/\(∃x y z:Int,H' a=some (.lst [.int x,.int y,.int z]))/\Dn.nx (σD.set i (some .pen)),rt:=λ_ _=>False } I ⟨H₀,σD,_,ok,q,λa H1 vs xs s1 n e r1 q1=>?_⟩) λf s' z=>?_
 ·obtain⟨⟨x,y,z,rfl⟩,q1⟩:=q1
  cases r1 with
  |cons r1 t=>cases t with
   |cons r2 t=>cases t with
    |cons r3 t=>
     cases t
     cases r1
     cases r2
     cases r3;exact⟨a,s1,n,rfl,⟨x,y,z,e⟩,q1⟩
 ·cases f with
  |next=>
   obtain⟨σ',H',I',a,sm,n,rfl,⟨x,y,z,e⟩,q⟩:=z;have sm2:Same H (upd H' a (zbb a)):=λb u hb=>by rw[zw (yi hb n)];exact sm b u hb
   exact⟨_,_,_,I'.toPen e,(ok.after sm2).put (.pen zx) i,sm2.pers,q⟩
  |ret u=>obtain⟨_,_,_,_,_,z⟩:=z;exact z.elim
  |brk=>obtain⟨_,_,_,z⟩:=z;exact z.elim
  |cont=>obtain⟨_,_,_,z⟩:=z;exact z.elim⟩
def ztc(te:DTE)(g:DTG):DTS:=λDn σ=>te σ λd=>g d σ Dn.nx
theorem zm9{tg:Expr}{is:List Nat}{g:DTG}(he:DE X e te)(hg:DG X tg is g)(hs:swapsWithSole [tg] e pos.line X.env=pure false:=by rfl)(hw:swappedStores [tg] e X.env=pure none:=by rfl)
  (h1:(assignEach [tg] X.env).map (·.2) = [assign tg X.env]:=by rfl):DS X (.Assign [tg] e pos) (ztc te g) :=
 DS.of (ze5 he.pe hg.pg hs hw h1) λσ H H₀ σD Dn ok q=>⟨H₀,σD,_,ok,q,λv H1 d s1 r1 q1=>⟨H₀,σD,d,_,ok.after s1,r1,q1,λσ' σD' _ ok' _ q'=>⟨σD',ok',s1.pers,q'⟩⟩⟩
def ztd(i j:Nat)(t:DTF):DTS:=λDn σ=>t σ λds=>match ds with
 |[d,e]=>Dn.nx ((σ.set i (some (.val d))).set j (some (.val e)))
 |_=>False
theorem zte{i j:Nat}{x y:Str}{a b:Expr}{px py pt:Pos}{kt k2 pt2}(hc:X.calm=true)(hN:X.N.Nodup)(hi:X.N[i]?=some x)(hj:X.N[j]?=some y)(hij:i≠j)
  (hx:X.env.scope.names.lookup x=some .local) (hy:X.env.scope.names.lookup y=some .local) (ha:DA X [a,b] tf)
  (hw:swappedStores [.Tuple [.Name x px,.Name y py] kt pt] (.Tuple [a,b] k2 pt2) X.env=pure (some [x,y]))
  (hs:swapsWithSole [.Tuple [.Name x px,.Name y py] kt pt] (.Tuple [a,b] k2 pt2) pos.line X.env=pure false:=by rfl) :
  DS X (.Assign [.Tuple [.Name x px,.Name y py] kt pt] (.Tuple [a,b] k2 pt2) pos) (ztd i j tf) :=
 DS.of (zrx hc hN hi hj hij hx hy ha.pa hw hs) λσ H H₀ σD Dn ok q=>⟨H₀,σD,_,ok,q,λvs H1 ds s1 r1 q1=>by
  match ds,r1,q1 with
  |[d,e],r1,q1=>
   cases r1 with
   |cons p1 t1=>cases t1 with
    |cons p2 t2=>
     cases t2;exact⟨_,_,rfl,_,((ok.after s1).setV p1 i).setV p2 j,s1.pers,q1⟩⟩
def dIf(c:DTT)(t u:DTS):DTS:=λDn σ=>c σ λb=>if b=true then t Dn σ else u Dn σ
theorem yr{c:Expr}{a b:List Stmt}{tc:DTT}(hc:DT X c tc)(ha:DSs X a t)(hb:DSs X b u):DS X (.If c a b pos) (dIf tc t u):=⟨λpins s σ H H₀ σD Dn I ok q=>by
 refine wpAny_If (thn (hc.run pins s σ H H₀ σD _ I ok q) λd s1 ⟨H1,I1,sm,q1⟩=>?_)
 cases d with
 |true=>exact thn (ha.run pins s1 σ H1 H₀ σD Dn I1 (ok.after sm) (by simpa using q1)) λ_ _ z=>z.back sm.pers
 |false=>exact thn (hb.run pins s1 σ H1 H₀ σD Dn I1 (ok.after sm) (by simpa using q1)) λ_ _ z=>z.back sm.pers⟩
def zc3(g:DTG)(tb:DTS)(Dn:vj):List D->DSt->Prop
 |[],σ=>Dn.nx σ
 |d::ds,σ=>g d σ λσ2=>tb { Dn with nx:=zc3 g tb Dn ds,ct:=zc3 g tb Dn ds,bk:=Dn.nx } σ2
theorem zg3{g:DTG}{tb:DTS}{Dn:vj}(Iv:Nat->DSt->Prop):∀(ds:List D) (σ:DSt) (n:Nat),Iv n σ->(∀i d σ (N:DSt->Prop),ds[i]?=some d->Iv (n+i) σ->(∀σ',Iv (n+i+1) σ'->N σ')->g d σ λσ2=>tb { Dn with nx:=N,ct:=N,bk:=Dn.nx } σ2) ->
  (∀σ',Iv (n+ds.length) σ'->Dn.nx σ')->zc3 g tb Dn ds σ
 |[],σ,n,h0,_,hd=>hd σ h0
 |d::ds,σ,n,h0,hs,hd=>hs 0 d σ _ rfl h0 λσ' h'=>zg3 Iv ds σ' (n+1) h' (λi d' σ2 N e w k=>hs (i+1) d' σ2 N (by simpa using e) (by rw[show n+(i+1)=n+1+i by omega];exact w) (λσ3 w3=>k σ3 (by rw[show n+1+i+1=n+(i+1)+1 by omega];exact w3))) (λσ2 w=>hd σ2 (by rw[show n+(d::ds).length=n+1+ds.length by simp only[List.length_cons];omega];exact w))
theorem xx{g:DTG}{tb:DTS}{Dn:vj}(Iv:List D->DSt->Prop)(hs:∀d ds σ (N:DSt->Prop),Iv (d::ds) σ->(∀σ',Iv ds σ'->N σ')->g d σ λσ2=>tb { Dn with nx:=N,ct:=N,bk:=Dn.nx } σ2)(hd:∀σ,Iv [] σ->Dn.nx σ):∀{ds:List D}{σ:DSt},Iv ds σ->zc3 g tb Dn ds σ
 |[],σ,h=>hd σ h
 |d::ds,σ,h=>hs d ds σ _ h λσ' h'=>xx Iv hs hd h'
def ztf(ti:DTF)(g:DTG)(tb:DTS):DTS:=λDn σ=>ti σ λds=>zc3 g tb Dn ds σ
theorem wo{tg iter:Expr}{body:List Stmt}{ti:DTF}{is:List Nat}{g:DTG}{tb:DTS}(hp:PassesOwn (model X.prog X.w) X.A X.env X.xe)(hc:X.calm=true)(hi:DI X tg iter ti)(hg:DG X tg is g)(hb:DSs X body tb)
  (hs:∀x,foldedSetIterable iter X.env x=pure x:=by intro _;rfl):DS X (.For tg iter body [] pos) (ztf ti g tb) :=
 DS.of (zry hp hc hi.pi hg.pg hb.ps hs) λσ H H₀ σD Dn ok q=>⟨H₀,σD,_,ok,q,λJ H1 ds s1 it q1=>by
  have sub:∀{i:Nat}{d:D}{σ':DSt},ds[i]?=some d->zc3 g tb Dn (ds.drop i) σ'=g d σ' (λσ2=>tb { Dn with nx:=zc3 g tb Dn (ds.drop (i+1)),ct:=zc3 g tb Dn (ds.drop (i+1)),bk:=Dn.nx } σ2):=λ{i d σ'} e=>by
   obtain⟨hi,e'⟩:=List.getElem?_eq_some_iff.mp e;rw[List.drop_eq_getElem_cons hi,e'];rfl
  refine⟨λi m σ' H'=>m=ds.length-i/\i<=ds.length/\Pers H1 H'/\∃σD',DOk X.K H₀ H' σD' σ'/\zc3 g tb Dn (ds.drop i) σD',⟨ds.length,rfl,Nat.zero_le _,Pers.refl _,σD,ok.after s1,q1⟩,?_⟩;rintro i m σ' H' ⟨rfl,hi,pr,σD',ok',q'⟩
  by_cases hlt:i<ds.length
  ·have e:ds[i]?=some ds[i]:=by simp[hlt]
   obtain⟨go,yl⟩:=it.go H' i ds[i] pr e;rw[sub e]at q';refine .inr ⟨go,λσ2 H2=>Pers H1 H2/\∃σD2,DOk X.K H₀ H2 σD2 σ2/\zc3 g tb Dn (ds.drop (i+1)) σD2,λσ2 H2 zq18=>by obtain⟨p2,σD2,ok2,q2⟩:=zq18;exact⟨ds.length-(i+1),by omega,rfl,hlt,p2,σD2,ok2,q2⟩,λx H2 y=>?_⟩;obtain⟨s2,r2⟩:=yl x H2 y;have p2:=pr.trans s2.pers;refine⟨H₀,σD',ds[i],_,ok'.after s2,r2,q',λσ3 σD3 _ ok3 _ q3=>?_⟩;exact⟨H₀,σD3,_,ok3,q3,λσ4 H4 σD4 ok4 p4 q4=>⟨p2.trans p4,σD4,ok4,q4⟩,λv H4 r sm rp qr=>⟨r,sm,rp,qr⟩,λσ4 H4 σD4 ok4 p4 q4=>⟨σD4,ok4,(s1.pers.trans p2).trans p4,q4⟩,λσ4 H4 σD4 ok4 p4 q4=>⟨p2.trans p4,σD4,ok4,q4⟩⟩
  ·have e:i=ds.length:=by omega
   subst e;rw[List.drop_length]at q';exact .inl ⟨it.stop H' pr,σD',ok',s1.pers.trans pr,q'⟩⟩
variable {ta tb:DTE}
def zpm(i:Nat)(te:DTE):DTS:=λDn σ=>match σ[i]? with
 |some (some (.own (.lst xs)))=>te σ λd=>xs.length<sizeLine/\Dn.nx (clr (σ.set i (some (.own (.lst (xs ++ [d]))))))
 |_=>False
theorem wy(i:Nat){x:Str}{p1 apos cpos:Pos}(he:DE X e te)(hN:X.N[i]?=some x:=by rfl)(hv:Vis X.env.scope x:=by first|exact Or.inl rfl|exact Or.inr (Or.inl rfl)|exact Or.inr (Or.inr rfl))(hd:(x ==("__debug__" : Str))=false:=by decide)
  (hcd:(x ==("__classdict__" : Str))=false:=by decide)
  (hbase:attributeBase (.Name x p1) "append" X.env (eval (.Name x p1) X.env)=eval (.Name x p1) X.env:=by rfl)
  (hfew:((backTo cpos (starEach (e :: []) X.env)).all (λx=>!x.1) && (backToKw cpos (keywordEach [] X.env)).all (λx=>x.1.isSome)
   && decide ((e :: []).length+([]:List Keyword).length+(if ([]:List Keyword).isEmpty then 0 else 1)<30))=true:=by rfl)
  (hline:(apos.endLine == cpos.line)=true:=by rfl) (hst:starEach (e :: []) X.env=(false,eval e X.env)::starEach [] X.env:=by rfl) (hplain:(backTo cpos (starEach [] X.env)).any (·.1)=false:=by rfl)
  (hs:swapsWith (.Call (.Attribute (.Name x p1) "append" apos) [e] [] cpos) none pos.line X.env=pure false:=by rfl):DS X (.Expr (.Call (.Attribute (.Name x p1) "append" apos) [e] [] cpos) pos) (zpm i te) :=
 DS.of (zov (zqv PySem.F.plainAttrs_list PySem.F.slot_list_append PySem.F.type_list_append zba (kc (i:=i) hN hv hd hcd) (wm he.pe ke hst) hbase hfew hline hst hplain) hs) λσ H H₀ σD Dn ok q=>by
  unfold zpm at q
  split at q
  ·next xs eo=>
   obtain⟨a,vs,e1,e2,r,n⟩:=ok.ownL eo;refine⟨.ref a,e1,.inl ⟨rfl,vs,SqL.of e2⟩,H₀,σD,_,ok,q,λv H1 d s1 r1 q1=>?_⟩;refine⟨a,vs,v,rfl,rfl,s1 _ _ e2,by rw[<-r.length];exact q1.1,_,(ok.after s1).write eo e1 (s1 _ _ e2) ((r.same s1).append (.cons r1 .nil)),s1.pers.trans (vy (s1 _ _ e2) rfl),q1.2⟩
  ·exact q.elim
def zna(i:Nat)(ti te:DTE):DTS:=λDn σ=>te σ λd=>match σ[i]? with
 |some (some (.own (.lst xs)))=>ti σ λk=>match k with
  |.int k=>∃j,ixN xs.length k=some j/\Dn.nx (clr (σ.set i (some (.own (.lst (xs.set j d))))))
  |_=>False
 |_=>False
theorem zfp(i:Nat){ie:Expr}{x:Str}{p1 tpos:Pos}(he:DE X e te)(hi:DE X ie ta)(hN:X.N[i]?=some x:=by rfl)(hv:Vis X.env.scope x:=by first|exact Or.inl rfl|exact Or.inr (Or.inl rfl)|exact Or.inr (Or.inr rfl))(hd:(x ==("__debug__" : Str))=false:=by decide)
  (hcd:(x ==("__classdict__" : Str))=false:=by decide)
  (ha:∀v,assign (.Subscript (.Name x p1) ie tpos) X.env v=(do
   let ov <-holding [v] (eval (.Name x p1) X.env)
   let iv <-holding [v,ov] (eval ie X.env)
   standAt tpos
   holding [v,ov,iv] (setItem ov iv v)
   release [v,ov,iv] []):=by intro _;rfl)
  (hs:swapsWithSole [.Subscript (.Name x p1) ie tpos] e pos.line X.env=pure false:=by rfl) (hw:swappedStores [.Subscript (.Name x p1) ie tpos] e X.env=pure none:=by rfl)
  (h1:(assignEach [.Subscript (.Name x p1) ie tpos] X.env).map (·.2) = [assign (.Subscript (.Name x p1) ie tpos) X.env]:=by rfl):DS X (.Assign [.Subscript (.Name x p1) ie tpos] e pos) (zna i ta te) :=
 DS.of (ze5 he.pe (zh3 (kc (i:=i) hN hv hd hcd) hi.pe zct ha) hs hw h1) λσ H H₀ σD Dn ok q=>⟨H₀,σD,_,ok,q,λv H1 d s1 r1 q1=>by
  split at q1
  ·next xs eo=>
   obtain⟨a,vs,e1,e2,r,n⟩:=(ok.after s1).ownL eo;refine⟨.ref a,e1,H₀,σD,_,ok.after s1,q1,λw H2 k s2 r2 q2=>?_⟩
   cases k with
   |int k=>
    cases r2;obtain⟨j,ej,q2⟩:=q2;exact⟨a,vs,k,j,rfl,rfl,s2 _ _ e2,by rw[<-r.length];exact ej,_,((ok.after s1).after s2).write eo e1 (s2 _ _ e2) (Reps.set (r1.same s2) j (r.same s2)),(s1.pers.trans s2.pers).trans (vy (s2 _ _ e2) rfl),q2⟩
   |_=>exact q2.elim
  ·exact q1.elim⟩
end
def kh(N:List Str)(ws:List W):DSt:=ws.map some++List.replicate (N.length-ws.length) none
section
variable {P:Program}{w:World}{K:PySem.W.Frag}{mg:Str->Option Value}{base:Heap}
theorem DOk.begin{H:Hp}{ws:List W}{vs:List V}(r:RepWs K H ws vs)(N:List Str):DOk K H H (kh N ws) (start N vs):=by
 refine⟨Same.refl _,[],?_,List.nodup_nil,λa ha=>by cases ha⟩;unfold kh start;rw[<-r.length];generalize N.length-ws.length=n;have rep:∀n:Nat,Slots K H H (List.replicate n none) (List.replicate n none) []:=λn=>by
  induction n with
  |zero=>exact .nil
  |succ n ih=>exact .none ih
 induction r with
 |nil=>exact rep n
 |@cons w' v ws vs r t ih=>
  cases w' with
  |val d=>exact .val r ih
  |vw xs=>exact .vw r ih
  |vd xs=>exact .vd r ih
  |exc xs=>exact .exc r ih
  |scr ns=>obtain⟨a,rfl,r⟩:=r;exact .scr r ih
  |pen=>obtain⟨a,rfl,r⟩:=r;exact .pen r ih
  |tmp d=>exact r.elim
  |own o=>exact r.elim
theorem Fun.dok{x qual:Str}{st:Stmt}{f:Addr}{fd:FuncData}{N ps:List Str}{k:Nat}{sp:DSp}(F:Fun K x qual st f fd)(S:z0 N ps (zc st))(len:∀ws Q,sp ws Q->ws.length=ps.length)
  (hbody:∀(cdv:Value) (A:Around) (outer:List Env) (s:Shared) (H:Hp) (ws:List W) (Q:Ret->Prop) (E:XK),Room k (A.deeper (envOfC qual (zc st) s.heap.objs.size f cdv))->sp ws Q ->
   ∃t,DSs (zb5 CX0 P w K mg base N qual (zc st) f cdv A outer s H E).nox (zh st) t/\t { nx:=λ_=>Q (.val .none),rt:=Q } (kh N ws)):FnOk P w K mg base CX0 (k+1) f fd ps (z4 K sp):=by
 refine F.ok S (λvs H Q E h=>?_) λcdv A outer s H vs Q E hr h=>?_
 ·obtain⟨ws,QD,r,q,_⟩:=h;rw[<-r.length];exact len ws QD q
 ·obtain⟨ws,QD,r,q,kk⟩:=h;obtain⟨t,ht,hq⟩:=hbody cdv A outer s H ws QD E hr q;refine⟨_,ht.ps,H,_,_,DOk.begin r N,hq,λσ' H' σD' ok' p' q'=>kk .non H' (.val .none) ok'.same .non q',λv H' r' sm rp qr=>kk v H' r' sm rp qr,λ_ _ _ _ _ z=>z.elim,λ_ _ _ _ _ z=>z.elim⟩
end
def znb:Sp:=λvs H Q _=>∃(p:Addr) (m:Int),vs = [.ref p,.int m]/\0<m/\m<10000000000000000000000000000000000000000000000000000000000000/\Pen H p/\∀(v:Int) H',0<=v->v<m->Pen H' p->But p H H'->Q (.int v) H'
def vm:DSp:=λws Q=>∃m:Int,ws = [.pen,.val (.int m)]/\0<m/\m<10000000000000000000000000000000000000000000000000000000000000/\∀v:Int,0<=v->v<m->Q (.val (.int v))
theorem ztg{P:Program}{w:World}{K:PySem.W.Frag}{mg:Str->Option Value}{base:Heap}{k:Nat}{f:Addr}{fd:FuncData}{ps:List Str}(F:FnOk P w K mg base CX0 k f fd ps znb):FnOk P w K mg base CX0 k f fd ps (z4 K vm):=by
 refine⟨λvs H Q E h=>?_,λA outer s H args us vs Q E hr e0 hb hv hs=>?_⟩
 ·obtain⟨ws,QD,rw',⟨m,rfl,hm,hM,q⟩,kk⟩:=h
  cases rw' with
  |cons r1 t=>cases t with
   |cons r2 t=>
    cases t;obtain⟨p,rfl,hp⟩:=r1;have r2:Rep K H (.int m) _:=r2
    cases r2;exact F.len [.ref p,.int m] (upd H p (.lst [.int 0,.int 0,.int 0])) (λ_ _=>True) E ⟨p,m,rfl,hm,hM,⟨0,0,0,zx⟩,λ_ _ _ _ _ _=>trivial⟩
 ·obtain⟨ws,QD,rw',⟨m,rfl,hm,hM,q⟩,kk⟩:=hs
  cases rw' with
  |cons r1 t=>cases t with
   |cons r2 t=>
    cases t;obtain⟨p,rfl,hp⟩:=r1;have r2:Rep K H (.int m) _:=r2
    cases r2;obtain⟨⟨x,y,z,tx,ty,tz,n,e⟩,_,_⟩:=e0.hok p _ hp;have mu:Mut (H p):=by rw[hp];exact trivial
    have hok1:HOk P w (upd H p (.lst [.int x,.int y,.int z])) s.heap:=e0.hok.write (h':=s.heap) mu (.inl rfl) (λb u _ q=>q) ⟨_,e⟩ ⟨by show 3<=sizeLine;decide,[_,_,_],n,.cons ⟨_,rfl⟩ (.cons ⟨_,rfl⟩ (.cons ⟨_,rfl⟩ .nil)),e⟩;have nn:∀b,H b=none->b≠p:=λb h z=>by rw[z,hp]at h;cases h
    have e1:Env0 P w K mg base A outer s (upd H p (.lst [.int x,.int y,.int z])):=⟨e0.frames,e0.mod,λb o h=>⟨(e0.bs b o h).1,by rw[zw (nn b (e0.bs b o h).2)];exact(e0.bs b o h).2⟩,e0.bsz,e0.funs,λb hb=>by rw[zw (nn b (e0.frf b hb))];exact e0.frf b hb,hok1,e0.bare⟩
    refine codeAny_mono (F.run A outer s _ args us [.ref p,.int m] (λv H'=>∃i,v=.int i/\0<=i/\i<m/\Pen H' p/\But p (upd H p (.lst [.int x,.int y,.int z])) H') E hr e1 hb hv ⟨p,m,rfl,hm,hM,⟨x,y,z,zx⟩,λv H' h1 h2 h3 h4=>⟨v,rfl,h1,h2,h3,h4⟩⟩) λr s' z=>?_
    cases r with
    |error e=>exact z
    |ok fl=>
     cases fl with
     |ret u=>
      obtain⟨v,H',os,bare,un,hok',rv,i,rfl,h1,h2,⟨a',b',c',hp'⟩,bt⟩:=z;obtain⟨zz,its,n',r',e'⟩:=hok' p _ hp';have pk:∃(x y z:Int) (tx ty tz:Tok),its = [.int x tx,.int y ty,.int z tz]:=by
       cases r' with
       |cons r1 r=>cases r with
        |cons r2 r=>cases r with
         |cons r3 r=>
          cases r;obtain⟨t1,rfl⟩:=r1;obtain⟨t2,rfl⟩:=r2;obtain⟨t3,rfl⟩:=r3;exact⟨_,_,_,_,_,_,rfl⟩
      obtain⟨x',y',z',tx',ty',tz',rfl⟩:=pk;have np:∀{b:Addr}{u:HO},H b=some u->u≠zbb p->b≠p:=λ{b u} h n z=>by rw[z,hp]at h;cases h;exact n rfl
      have hpen:∀{b:Addr},b≠p->upd H' p (zbb p) b=H' b:=λh=>zw h;refine⟨.int i,upd H' p (zbb p),os,bare,⟨λb o h n'=>un.keep b o h (by rw[zw (nn b n')];exact n'),λb o h n'=>un.slot b o h (by rw[zw (nn b n')];exact n'),λb o h n' hx=>?_,un.there,λb xs h=>?_,λb o u h=>?_,λb ps h=>?_⟩,?_,rv,kk (.int i) _ (.val (.int i)) (λb o h=>?_) (show Rep K _ (.int i) (.int i) from .int) (q i h1 h2)⟩
      ·rw[hpen (nn b n')];exact un.free b o h (by rw[zw (nn b n')];exact n') hx
      ·have nb:=np h (by unfold zbb;intro z;cases z);rw[hpen nb];exact un.tups b xs (by rw[zw nb];exact h)
      ·have nb:=np h (by unfold zbb;intro z;cases z);rw[hpen nb];exact un.frzs b o u (by rw[zw nb];exact h)
      ·have nb:=np h (by unfold zbb;intro z;cases z);obtain⟨more,e2⟩:=un.tbls b ps (by rw[zw nb];exact h);exact⟨more,by rw[hpen nb];exact e2⟩
      ·exact hok'.write (h':=s'.heap) (by rw[hp'];exact trivial) (.inl rfl) (λb u _ q=>q) ⟨_,e'⟩ (zjz e')
      ·by_cases hb:b=p
       ·subst hb;rw[hp]at h
        cases h;exact zx
       ·rw[zw hb];exact bt b o hb (by rw[zw hb];exact h)
     |next=>exact z
     |brk=>exact z
     |cont=>exact z
section
variable {prog:Program}{w:World}{A:Around}{E:Value->Shared->Prop}{s:Shared}
theorem zet{it t:Addr}{items:Array Value}(hne:t≠it):∀(n i:Nat) (s:Shared) (Q:List Value->Shared->Prop),s.heap.IsListIter it t i->s.heap.IsList t items->i+n<=items.size ->
  (∀h',h'.IsListIter it t (i+n)->Heap.SameBut it s.heap h'->Q ((items.toList.drop i).take n) { s with heap:=h' })->wpAny (model prog w) A (draw (.ref it) n) Q E s
 |0,i,s,Q,hit,_,_,hQ=>by
  show wpAny _ _ (pure []) Q E s;exact wpAny_pure (by simpa using hQ s.heap hit (Heap.SameBut.refl ..))
 |n+1,i,s,Q,hit,ht,hle,hQ=>by
  have hlt:i<items.size:=by omega
  show wpAny _ _ (pyNext (.ref it) >>= _) Q E s;refine wpAny_bind (wpAny_pyNext_list_item hit ht (x:=items[i]) (by simp[hlt]) λh₁ hit₁ hs₁=>?_);have ht1:h₁.IsList t items:=by obtain⟨o,e,r⟩:=ht;exact⟨o,(hs₁.2 t hne).trans e,r⟩
  refine wpAny_bind (wpAny_holding (zet hne n (i+1) _ _ hit₁ ht1 (by omega) λh₂ hit₂ hs₂=>wpAny_pure ?_));have hd:items.toList.drop i=items[i]::items.toList.drop (i+1):=by simp[List.drop_eq_getElem_cons,hlt]
  have:=hQ h₂ (by rw[show i+(n+1)=i+1+n by omega];exact hit₂) (hs₁.trans hs₂);rw[hd,List.take_succ_cons]at this;exact this
theorem zbg{t:Addr}{items:Array Value}{Q:List Value->Shared->Prop}(hh:A.handled=none)(ht:s.heap.IsList t items)
  (hQ:∀h',Heap.ExtBut s.heap.objs.size s.heap h'->Q items.toList { s with heap:=h' }):wpAny (model prog w) A (unpackItems (.ref t) items.size none) Q E s:=by
 have hlt:t≠s.heap.objs.size:=by obtain⟨o,ho,_⟩:=ht;exact Nat.ne_of_lt (Heap.lt_size ho)
 have push:∀o:Obj,(s.heap.push o).IsList t items:=λo=>by obtain⟨o',e,r⟩:=ht;exact⟨o',Heap.get?_push_of_some _ e,r⟩
 unfold unpackItems;refine wpAny_bind ?_
 ·unfold notIterableAtAll;refine wpAny_bind (wpAny_specialOf ht.typeIs slot_list_iter.lookup ?_);refine wpAny_pure ?_;simp only[Bool.false_eq_true,if_false];refine wpAny_bind (wpAny_holding (wpAny_pyIter_list ht ?_));refine wpAny_bind (wpAny_holding (zet hlt items.size 0 _ _ ⟨_,Heap.get?_push_size _ rfl,rfl,rfl⟩ (push _) (by omega) λh₁ hit₁ hs₁=>?_))
  have hall:List.take items.size (List.drop 0 items.toList)=items.toList:=by
   rw[List.drop_zero];exact List.take_of_length_le (by simp)
  rw[hall];rw[if_neg (by simp)];have ht₁:h₁.IsList t items:=by obtain⟨o',e,r⟩:=push { cls:=.type "list_iterator",data:=.fields #[.ref t,.int 0 0] };exact⟨o',(hs₁.2 t hlt).trans e,r⟩
  refine wpAny_bind (wpAny_holding (wpAny_pyNext_list_end hh hit₁ ht₁ (by simp) λh₂ he₂=>?_));simp only[Option.isSome_none,Bool.false_eq_true,if_false];refine wpAny_pure (hQ h₂ λb o hb e=>he₂ b o hb (hs₁.extBut b o hb (Heap.get?_push_of_some _ e)))
theorem zam{env:Env}{elts:List Expr}{x1}{pos:Pos}{t:Addr}{items:Array Value}{Q:Unit->Shared->Prop}(hh:A.handled=none)(ht:s.heap.IsList t items)
  (hn:(assignEach elts env).length=items.size) (hstar:(assignEach elts env).findIdx? (·.1)=none)
  (h:∀h',Heap.ExtBut s.heap.objs.size s.heap h'->wpAny (model prog w) A (assignInOrder ((assignEach elts env).map (·.2)) items.toList) Q E { s with heap:=h' }) :
  wpAny (model prog w) A (assign (.Tuple elts x1 pos) env (.ref t)) Q E s:=by
 rw[assign_Tuple];refine wpAny_bind (wpAny_standAt ?_);unfold unpack;rw[hn,hstar];exact wpAny_bind (wpAny_holding (zbg hh ht h))
end
section
variable {X:Cx}{tg iter e:Expr}{es:List Expr}{te:DTE}{tf:DTF}{p pos:Pos}
def znc(n:Nat)(gs:zfm):DTG:=λd σ Q=>match d with
 |.tuple xs=>xs.length=n/\gs xs σ Q
 |.list xs=>xs.length=n/\gs xs σ Q
 |_=>False
theorem xv{k:Nat}{is:List Nat}{gs:zfm}{n:Nat}(hc:X.calm=true)(h:DGs X es is gs)(hn:(assignEach es X.env).length=n:=by rfl)(hst:(assignEach es X.env).findIdx? (·.1)=none:=by rfl):DG X (.Tuple es k pos) is (znc n gs):=⟨λpins s σ H H₀ σD v u d Q I ok r rp q=>by
 cases d with
 |tuple xs=>exact(zs9 (k:=k) (pos:=pos) hc h hn hst).run pins s σ H H₀ σD v u _ Q I ok r rp q
 |list xs=>
  obtain⟨hl,q⟩:=q
  cases rp with
  |lst hq rr=>
   cases r;obtain⟨its,rv,ht,hz⟩:=I.list (.inl (.inr ⟨_,hq⟩));refine zam (I.ok.hd hc) ht.isList (by simp[hn,<-hl,<-rv.length,rr.length]) hst λh' hx=>?_;have I1:Inv X pins σ H { s with heap:=h' }:=I.kept (t':=s.toks) λb o e=>hx b o (Nat.ne_of_lt (Heap.lt_size e)) e;exact h.run pins _ σ H H₀ σD _ _ xs Q I1 ok (by simpa using rv) rr q
 |_=>exact q.elim⟩
variable {elt:Expr}{ifs:List Expr}{scope:Scope}{cl:List (Str×Addr)}{N' capt:List Str}{k:Nat}{js is:List Nat}{ti:DTF}{g:DTG}{tt:DTT}
theorem zlh{i:Nat}{x:Str}{pos' spos:Pos}(hN:X.N.Nodup)(hi':X.N[i]?=some x)(hx:Loc X.env.scope x)(hc:X.calm=true)(L:zd6 X scope cl N' capt k js)
  (hi:DIw X tg iter ti) (hg:∀C fp s2 H2,DG (yj X N' scope cl C fp s2 H2) tg is g) (ht:∀C fp s2 H2,DTs (yj X N' scope cl C fp s2 H2) ifs tt) (he:∀C fp s2 H2,DE (yj X N' scope cl C fp s2 H2) elt te)
  (his:∀j∈is,j<k) (hsw:swapsWith (.ListComp elt [⟨tg,iter,ifs,0⟩] scope pos) (some (.Name x pos')) spos.line X.env=pure true) (hs:∀x,foldedSetIterable iter X.env x=pure x) (hf:X.fn x=true\/X.env.scope.names.lookup x=some .local)
  {pins:List (Addr×Obj)}{s:Shared}{σ:St}{H H₀:Hp}{σD:DSt}{Q:List D->Prop} (I:Inv X pins σ H s) (ok:DOk X.K H₀ H σD σ) (q:dLC k js ti g tt te σD Q) :
  wpAny (model X.prog X.w) X.A (exec (.Assign [.Name x pos'] (.ListComp elt [⟨tg,iter,ifs,0⟩] scope pos) spos) X.env) (λf s'=>f=.next/\∃a H' vs xs,Inv X pins (σ.set i (some (.ref a))) H' s'/\Same H H'/\H a=none/\H' a=some (.lst vs)/\Reps X.K H' xs vs/\Q xs) X.xe s:=by
 refine thn (zmk (wi:=cnI X.K Same ti) (g:=cnG X.K is g) (tt:=cnT X.K tt) (te:=cnE X.K te) hN hi' hx hc L hi.pi (λC fp s2 H2=>(hg C fp s2 H2).pg) (λC fp s2 H2=>(ht C fp s2 H2).pts) (λC fp s2 H2=>(he C fp s2 H2).pe) hsw hs hf pins s σ H
  { nx:=λσ' H'=>∃a vs xs,σ'=σ.set i (some (.ref a))/\Same H H'/\H a=none/\H' a=some (.lst vs)/\Reps X.K H' xs vs/\Q xs,rt:=λ_ _=>False } I ?_) λf s' z=>?_
 ·refine⟨H₀,σD,_,ok,q,λJ H1 ds s1 it q1 Dd hn=>?_⟩
  have z:=zg1 (k:=k) (js:=js) (is:=is) (gL:=cnG X.K is g) (Dd:=Dd) (ok.after s1) it q1.1 (λd v σ' H' Q σ0 ok0 r0 q0=>⟨H1,σ0,d,Q,ok0,r0,q0,λσ2 σD2 l2 ok2 f2 q2=>⟨rfl,l2,f2,σD2,ok2,q2⟩⟩)
   (λv σ' H' Q Q' m zq7=>by obtain⟨a,b,c,d,e1,e2,e3,e4⟩:=zq7;exact⟨a,b,c,d,e1,e2,e3,λσ2 σD2 l o f q=>m _ _ (e4 σ2 σD2 l o f q)⟩) his hn q1.2
  obtain⟨W,w0,turn⟩:=z;refine⟨W,w0,λi m σ' H' w=>?_⟩;rcases turn i m σ' H' w with⟨st,aa,vs,xs,e,sm,n,e2,r,qd⟩|h
  ·exact .inl ⟨st,aa,vs,xs,by rw[e],s1.trans sm,s1.free n,e2,r,qd⟩
  ·exact .inr h
 ·cases f with
  |next=>obtain⟨σ',H',I',a,vs,xs,rfl,sm,n,e,r,q⟩:=z;exact⟨rfl,a,H',vs,xs,I',sm,n,e,r,q⟩
  |ret u=>obtain⟨_,_,_,_,_,z⟩:=z;exact z.elim
  |brk=>obtain⟨_,_,_,z⟩:=z;exact z.elim
  |cont=>obtain⟨_,_,_,z⟩:=z;exact z.elim
theorem zg4{i:Nat}{x:Str}{pos' spos:Pos}(hN:X.N.Nodup)(hi':X.N[i]?=some x)(hx:Loc X.env.scope x)(hc:X.calm=true)(L:zd6 X scope cl N' capt k js)
  (hi:DIw X tg iter ti) (hg:∀C fp s2 H2,DG (yj X N' scope cl C fp s2 H2) tg is g) (ht:∀C fp s2 H2,DTs (yj X N' scope cl C fp s2 H2) ifs tt) (he:∀C fp s2 H2,DE (yj X N' scope cl C fp s2 H2) elt te)
  (his:∀j∈is,j<k:=by decide) (hsw:swapsWith (.ListComp elt [⟨tg,iter,ifs,0⟩] scope pos) (some (.Name x pos')) spos.line X.env=pure true:=by rfl) (hs:∀x,foldedSetIterable iter X.env x=pure x:=by intro _;rfl) (hf:X.fn x=true\/X.env.scope.names.lookup x=some .local:=by first|exact .inl rfl|exact .inr rfl|assumption) :
  DS X (.Assign [.Name x pos'] (.ListComp elt [⟨tg,iter,ifs,0⟩] scope pos) spos) (zm6 i (dFz (dLC k js ti g tt te))):=⟨λpins s σ H H₀ σD Dn I ok q=>by
 refine thn (zlh hN hi' hx hc L hi hg ht he his hsw hs hf I ok q) λf s' ⟨ef,a,H',vs,xs,I',sm,n,e,r,qd⟩=>?_;subst ef;obtain⟨H'',J,sm',r'⟩:=j4 I' sm n e r;exact⟨_,H'',_,J,(ok.after sm').setV r' i,sm'.pers,qd⟩⟩
inductive RepRs(K:PySem.W.Frag):Hp->Hp->List Ret->List V->Prop
 |nil {H H':Hp} (s:Same H H'):RepRs K H H' [] []
 |val {H H1 H':Hp}{d:D}{v:V}{rs:List Ret}{vs:List V} (s:Same H H1) (r:Rep K H1 d v) (t:RepRs K H1 H' rs vs):RepRs K H H' (.val d::rs) (v::vs)
 |new {H H1 H':Hp}{xs:List D}{a:Addr}{ws:List V}{rs:List Ret}{vs:List V} (s:Same H H1) (n:H a=none) (e:H1 a=some (.lst ws)) (r:Reps K H1 xs ws) (t:RepRs K H1 H' rs vs):RepRs K H H' (.new xs::rs) (.ref a::vs)
theorem RepRs.more{K:PySem.W.Frag}{H H':Hp}{rs:List Ret}{vs:List V}(h:RepRs K H H' rs vs){H2:Hp}(s2:Same H' H2):RepRs K H H2 rs vs:=by
 induction h with
 |nil s=>exact .nil (s.trans s2)
 |val s r _ ih=>exact .val s r (ih s2)
 |new s n e r _ ih=>exact .new s n e r (ih s2)
theorem RepRs.length{K:PySem.W.Frag}{H H':Hp}{rs:List Ret}{vs:List V}(h:RepRs K H H' rs vs):rs.length=vs.length:=by
 induction h with
 |nil s=>rfl
 |val s _ _ ih=>simp[ih]
 |new s _ _ _ _ ih=>simp[ih]
def Ret.w:Ret->W
 |.val d=>.val d
 |.new xs=>.own (.lst xs)
def zra:List Nat->List V->St->St
 |i::is,v::vs,σ=>zra is vs (σ.set i (some v))
 |_,_,σ=>σ
abbrev DTM:=DSt->(List Ret->Prop)->Prop
structure DM(X:Cx)(es:List Expr)(t:DTM):Prop where
 run:∀(pos:Pos) (pins:List (Addr×Obj)) (s:Shared) (σ:St) (H H₀:Hp) (σD:DSt) (Q:List Ret->Prop),Inv X pins σ H s->DOk X.K H₀ H σD σ->t σD Q ->
  wpAny (model X.prog X.w) X.A (spliced (backTo pos (starEach es X.env))) (λus s'=>∃vs H' rs,Inv X pins σ H' s'/\Vals vs us/\RepRs X.K H H' rs vs/\Q rs) X.xe s
structure DGN(X:Cx)(es:List Expr)(is:List Nat):Prop where
 pgs:PGs X es (λvs σ H Q=>vs.length=is.length/\Q (zra is vs σ) H)
section
variable {pins:List (Addr×Obj)}{σ:St}{H:Hp}{s:Shared}
end
def zvh(X:Cx)(pins:List (Addr×Obj))(σ:St)(H:Hp)(Q:D->Prop)(u:Value)(s':Shared):Prop:=∃v H' d,Inv X pins σ H' s'/\RelV v u/\Same H H'/\RepN X.K H' d v/\Q d
structure DN(X:Cx)(e:Expr)(t:DTE):Prop where
 run:∀(pins:List (Addr×Obj)) (s:Shared) (σ:St) (H H₀:Hp) (σD:DSt) (Q:D->Prop),Inv X pins σ H s->DOk X.K H₀ H σD σ->t σD Q->wpAny (model X.prog X.w) X.A (eval e X.env) (zvh X pins σ H Q) X.xe s
structure DAn(X:Cx)(es:List Expr)(t:DTF):Prop where
 run:∀(pos:Pos) (pins:List (Addr×Obj)) (s:Shared) (σ:St) (H H₀:Hp) (σD:DSt) (Q:List D->Prop),Inv X pins σ H s->DOk X.K H₀ H σD σ->t σD Q ->
  wpAny (model X.prog X.w) X.A (spliced (backTo pos (starEach es X.env))) (λus s'=>∃vs H' ds,Inv X pins σ H' s'/\Vals vs us/\Same H H'/\RepNs X.K H' ds vs/\Q ds) X.xe s
theorem DN.of{t:DTE}{t':TE}(h:PE X e t')(k:∀σ H H₀ σD QD,DOk X.K H₀ H σD σ->t σD QD->t' σ H (λv H'=>∃d,Same H H'/\RepN X.K H' d v/\QD d)):DN X e t :=
 ⟨λpins s σ H H₀ σD Q I ok q=>thn (h pins s σ H _ I (k σ H H₀ σD Q ok q)) λu s' zq80=>by obtain⟨v,H',I',r,d,sm,rp,qd⟩:=zq80;exact⟨v,H',d,I',r,sm,rp,qd⟩⟩
theorem RepNs.length{K:PySem.W.Frag}{H:Hp}:∀{ds:List D}{vs:List V},RepNs K H ds vs->ds.length=vs.length
 |_,_,.nil=>rfl
 |_,_,.cons _ t=>by simp[t.length]
end
section
variable {X:Cx}{tg iter e:Expr}{es:List Expr}{te:DTE}{tf:DTF}{p pos:Pos}
def znd:List D->(D->Prop)->Prop
 |[.list xs],Q=>∃ns,zak xs=some ns/\0<ns.length/\∀m:Int,m∈ns->(∀a∈ns,a<=m)->Q (.int m)
 |_,_=>False
theorem zli(hc:X.calm=true):wz X (.builtin "max") (λvs H Q=>∃(l:Addr) (ns:List Int),vs = [.ref l]/\SqL X.K H l (ns.map V.int)/\0<ns.length/\∀m:Int,m∈ns->(∀a∈ns,a<=m)->Q (.int m) H):=by
 intro pins s σ H xs us Q I rv h;obtain⟨l,ns,rfl,hq,hne,q⟩:=h;obtain⟨u,rfl,r1⟩:=rv.one
 cases r1;obtain⟨its,rvs,pl,hz⟩:=I.list hq;have hi:IntsAre its ns:=wx rvs;obtain⟨xs,e⟩:=hi.allInts.items;have hns:ns=xs.toList.map (·.1):=by rw[<-hi.numsOf,<-nums_intItems,<-e]
 have hsz:0<xs.size:=by have h3:=hne;rw[hns,List.length_map,Array.length_toList]at h3;exact h3
 have hl:s.heap.IsList l (intItems xs):=by rw[<-e];exact pl.isList
 refine max_intList (I.ok.hd hc) hl hsz λv h' tk hv hk=>?_;obtain⟨t,rfl⟩:=intItems_at hv;obtain⟨h1,h2⟩:=argBest_gt (numAt xs) (xs.size-1);refine⟨.int _,H,I.kept hk,⟨t,rfl⟩,q _ ?_ λa ha=>?_⟩
 ·rw[hns,numAt_eq];exact getD_mem (by rw[List.length_map,Array.length_toList];omega)
 ·rw[hns]at ha;obtain⟨j,hj,rfl⟩:=mem_getD ha;rw[List.length_map,Array.length_toList]at hj;rw[<-numAt_eq];exact h2 j (by omega)
theorem zth(hc:X.calm=true):CallD X (.builtin "max") znd:=CallD.of (zli hc) λvs H ds Q rd q=>by
 match ds,q,rd with
 |[.list xs],q,rd=>
  obtain⟨v,rfl,r⟩:=rd.one;obtain⟨a,vs,rfl,h,r⟩:=r.list.sq;obtain⟨ns,e,hl,q⟩:=q
  cases zbe r e;exact⟨a,ns,rfl,h,hl,λm h1 h2=>⟨_,Same.refl _,.int,q m h1 h2⟩⟩
end
section
variable {prog:Program}{w:World}{A:Around}{E:Value->Shared->Prop}{s:Shared}
theorem zti{b:Bool}{it l:Addr}{items:Array Value}(hh:A.handled=none)(hne:l≠it):Draws prog w A it [it,l] items.size (λi x=>items[i]?=some x) (λi h=>zIt b h it l i/\zSq b h l items) where
 live:=λi h st=>by
  obtain⟨o,e,_⟩:=st.1.own;exact⟨o,e⟩
 frame:=λi h h' st k=>⟨st.1.at λo e=>k it (by simp) o e,by
  cases b
  ·obtain⟨o,e,r⟩:=(show h.IsList l items from st.2);exact(show h'.IsList l items from⟨o,k l (by simp) o e,r⟩)
  ·obtain⟨o,e,r⟩:=(show h.IsTuple l items from st.2);exact(show h'.IsTuple l items from⟨o,k l (by simp) o e,r⟩)⟩
 item:=λi s Q E hi st hQ=>by
  refine zif st.1 st.2 (x:=items[i]) (by simp[hi]) λh' hit' hs'=>?_;refine hQ _ h' s.toks (by simp[hi]) ⟨hit',?_⟩ hs'
  cases b
  ·obtain⟨o,e,r⟩:=(show s.heap.IsList l items from st.2);exact(show h'.IsList l items from⟨o,(hs'.2 l hne).trans e,r⟩)
  ·obtain⟨o,e,r⟩:=(show s.heap.IsTuple l items from st.2);exact(show h'.IsTuple l items from⟨o,(hs'.2 l hne).trans e,r⟩)
 done:=λs Q E st hE=>zeo hh st.1 st.2 (by simp) hE
theorem zg5(b:Bool)(l:Addr)(items:Array Value):
  Meets (Builtin.«enumerate.__new__» ⟨[.type "enumerate",.ref l],[]⟩) (λ_ R s=>zSq b s.heap l items /\
   R (.ok (.ret (.ref (s.heap.push (zOb b l)).objs.size)))
    { s with heap:=(s.heap.push (zOb b l)).push { cls:=.type "enumerate",data:=.fields #[.none,.bool false,.ref s.heap.objs.size,rawInt 0,.none,.none] } }) :=
 .of_wp λprog w A R s h=>by
  obtain⟨hp,g,d,tk,os⟩:=s;obtain⟨hl,h⟩:=h;have hsub:=sub_enumerate
  wp_walk
  refine wpAny_stack_any λst=>wpAny_pure ?_
  split
  ·rename_i c _ _ _ _ _
   cases (c == Value.type "enumerate")
   ·wp_walk using zmo hl
    exact⟨_,rfl,h⟩
   ·wp_walk using zmo hl
    exact⟨_,rfl,h⟩
  ·wp_walk using zmo hl
   exact⟨_,rfl,h⟩
theorem zio{b:Bool}{l:Addr}{items:Array Value}{Q:Value->Shared->Prop}(hL:zSq b s.heap l items)
  (h:∀h',IsEnum h' (s.heap.objs.size+1) s.heap.objs.size 0 .none->zIt b h' s.heap.objs.size l 0->h'.objs.size=s.heap.objs.size+2 ->
   (∀b o,s.heap.get? b=some o->h'.get? b=some o)->Q (.ref (s.heap.objs.size+1)) { s with heap:=h' }) :
  wpAny (model prog w) A (call (.type "enumerate") [.ref l]) Q E s:=by
 refine callType_new F.called_enumerate (by decide) (F.typeCall_enumerate_1 _) (F.newCall_enumerate_1 _) (λobj=>F.args_object_init_2 obj _) F.entry_enumerate_new (zg5 b l items) ⟨hL,?_⟩;have hz:(s.heap.push (zOb b l)).objs.size=s.heap.objs.size+1:=Heap.size_push ..;show _/\_;rw[hz];have he:IsEnum ((s.heap.push (zOb b l)).push
   { cls:=.type "enumerate",data:=.fields #[.none,.bool false,.ref s.heap.objs.size,rawInt 0,.none,.none] }) (s.heap.objs.size+1) s.heap.objs.size 0 .none:=by
  have:=Heap.get?_push_size (s.heap.push (zOb b l))
   (o:={ cls:=.type "enumerate",data:=.fields #[.none,.bool false,.ref s.heap.objs.size,rawInt 0,.none,.none] }) rfl
  rw[hz]at this;exact this
 have hi:zIt b ((s.heap.push (zOb b l)).push { cls:=.type "enumerate",data:=.fields #[.none,.bool false,.ref s.heap.objs.size,rawInt 0,.none,.none] }) s.heap.objs.size l 0:=by
  have g:((s.heap.push (zOb b l)).push { cls:=.type "enumerate",data:=.fields #[.none,.bool false,.ref s.heap.objs.size,rawInt 0,.none,.none] }).get? s.heap.objs.size=some (zOb b l):=Heap.get?_push_of_some _ (Heap.get?_push_size _ rfl)
  cases b
  ·exact⟨_,g,rfl,rfl⟩
  ·exact⟨_,g,rfl,rfl⟩
 exact⟨⟨_,he,rfl⟩,h _ he hi (by rw[Heap.size_push,hz]) λb o x=>Heap.get?_push_of_some _ (Heap.get?_push_of_some _ x)⟩
end
def zpn(b:Bool)(K:PySem.W.Frag)(a:Addr):It :=
 ⟨λi H=>∃xs x,SqG b K H a xs/\xs[i]?=some x,λi H v H'=>∃p x,H p=none/\v=.ref p/\H'=upd H p (.tup [.int i,x])/\∀xs,SqG b K H a xs->xs[i]?=some x,λi H=>∃xs,SqG b K H a xs/\xs.length<=i⟩
theorem ziq{P:Program}{w:World}{K:PySem.W.Frag}{b:Bool}{elts:List Expr}{x1}{tpos:Pos}{l e it:Addr}(hne:e≠it)(hle:l≠it)(hel:e≠l):
  ze7 P w K (.Tuple elts x1 tpos) (zpn b K l) [e,it] e (λi h=>(∃old,IsEnum h e it i old)/\zIt b h it l i) where
 mem:=by simp
 obj:=λi h st c hb=>by
  obtain⟨⟨old,he⟩,h1⟩:=st;simp only[List.mem_cons,List.not_mem_nil,or_false]at hb;rcases hb with rfl|rfl
  ·exact⟨_,he,λv q=>by cases (show Data.fields _=Data.cell v from q)⟩
  ·exact h1.own
 keep:=λi h h' st k=>by
  obtain⟨⟨old,he⟩,h1⟩:=st;exact⟨⟨old,k _ (by simp) _ he⟩,h1.at λo e=>k it (by simp) o e⟩
 item:=by
  intro X hP hw hK hc i pins s σ H E I hf st hg;subst hP hw hK;obtain⟨xs,x,hq,hx⟩:=hg;obtain⟨⟨old,he⟩,h1⟩:=st;obtain⟨its,rv,p,hz⟩:=I.sqG hq;obtain⟨u,hu,ru⟩:=rv.get hx;have hlt:i<its.toArray.size:=by have:=(List.getElem?_eq_some_iff.mp hu).1;simpa using this
  refine wpAny_pyNext_enum_itemD (zti (b:=b) (A:=X.A.in1) (I.ok.hd hc) hle) he ⟨h1,p⟩ hlt hne (by simp[hne,hel]) λu' h' tk hu' he' h1' hp' hsz hk=>⟨_,rfl,?_⟩
  have eu:u'=u:=by
   have e1:its.toArray[i]?=some u:=by simpa using hu
   rw[e1]at hu';exact(Option.some.inj hu').symm
  subst eu;refine wpAny_letOwnedTupleGo_enum he' λh'' he'' hsb=>?_;have ne:s.heap.objs.size≠e:=λq=>by have:=Heap.lt_size he;rw[<-q]at this;exact Nat.lt_irrefl _ this
  have hp2:=(hsb.2 _ ne).trans hp';have nb:∀c o,s.heap.get? c=some o->c≠s.heap.objs.size:=λc o e=>Nat.ne_of_lt (Heap.lt_size e);have I1:Inv X pins σ (upd H s.heap.objs.size (.tup [.int i,x])) { s with heap:=h'',toks:=tk+1 }:=by
   refine I.turnedNew (ch:=[e,it]) hf (Nat.le_refl _) (λb u hb e=>?_) ⟨by simp[sizeLine_eq],[.int i tk,u'],.cons ⟨_,rfl⟩ (.cons ru .nil),?_⟩
   ·simp only[List.mem_cons,List.not_mem_nil,or_false,not_or]at hb;exact(hsb.2 b hb.1).trans (hk b u hb.1 hb.2 e)
   ·exact⟨_,hp2,rfl,⟨_,rfl⟩,rfl⟩
  refine⟨.ref s.heap.objs.size,_,I1,rfl,⟨_,x,I.hok.fresh (Nat.le_refl _),rfl,rfl,λxs' h=>by rw[I.sqG_inj h hq];exact hx⟩,⟨⟨_,he''⟩,?_⟩,λb hb=>?_⟩
  ·exact h1'.1.at λo e'=>(hsb.2 _ (Ne.symm hne)).trans e'
  ·rw[zw]
   ·exact(hf b hb).1
   ·intro q;subst q;simp only[List.mem_cons,List.not_mem_nil,or_false]at hb;obtain⟨o1,e1,_⟩:=h1.own;rcases hb with q|q
    ·exact nb _ _ he q.symm
    ·exact nb _ _ e1 q.symm
 done:=by
  intro X hP hw hK hc i pins s σ H E I hf st hg;subst hP hw hK;obtain⟨xs,hq,hl⟩:=hg;obtain⟨⟨old,he⟩,h1⟩:=st;obtain⟨its,rv,p,hz⟩:=I.sqG hq;have e1:=rv.length;have hT:s.TypeIs (.ref e) "enumerate" :=⟨_,he,rfl⟩
  unfold pyNext;refine wpAny_bind (wpAny_attempt (wpAny_callSpecial?_slot (name:=Str.ofString "__next__") hT F.slot_enumerate_next
   (wpAny_call_entry F.slot_enumerate_next hT F.entry_enumerate_next ?_ (F.args_enumerate_next_1 _))))
  show wpAny _ _ (field (.ref e) 2 >>= _) _ _ _;refine wpAny_bind (wpAny_field he rfl (x:=.ref it) rfl ?_);refine wpAny_bind (zeo (b:=b) (A:=X.A.in1) (I.ok.hd hc) h1 p (by simp;omega) λh' x he' hx'=>?_);obtain⟨o,ho,hcc⟩:=hx';refine wpAny_bind (wpAny_isInstance (T := "StopIteration") (b:=true) ⟨o,ho,hcc⟩ isSubtype_stop ?_);refine wpAny_pure ⟨rfl,?_⟩;refine I.turnedL (t':=s.toks) (ch:=[e,it]) hf λb u hb e=>?_;simp only[List.mem_cons,List.not_mem_nil,or_false,not_or]at hb;exact he' b u hb.2 e
 self:=λ_ _ _ _ _ st h=>by
  obtain⟨⟨old,he⟩,h1⟩:=st;exact wpAny_pyIter_enum he h
section
variable {X:Cx}{a:Expr}{t:DTF}{p pos:Pos}
theorem zne{elts:List Expr}{x1}{tpos:Pos}{ta:TA}(hg:Gl X "enumerate")(hm:X.mg "enumerate" = none)(ha:PA X [a] ta)(hs:starEach [a] X.env = [(false,eval a X.env)]:=by rfl):
  PI X (.Tuple elts x1 tpos) (.Call (.Name "enumerate" p) [a] [] pos) (λσ H R=>ta σ H λvs H1=>∃b a,vs = [.ref a]/\(∃xs,SqG b X.K H1 a xs)/\R (zpn b X.K a) H1):=by
 intro pins s σ H R I h;refine Call_ (qo I hg hm boot_enumerate (PyProof.Rows.callWith_type1 (thn (ha pos pins s σ H _ I h) λus s1 ⟨vs,H1,I1,r1,q1⟩=>?_) hs rfl));obtain⟨b,l,e,⟨xs,hq⟩,q⟩:=q1;subst e;obtain⟨v1,rfl,r1'⟩:=r1.one
 cases r1';obtain⟨its,rv,p,hz⟩:=I1.sqG hq;have hlt:=p.lt;refine zio p λh' he hi hsz hk=>wpAny_pyIter_enum he ?_;have I2:Inv X pins σ H1 { s1 with heap:=h' }:=I1.kept (t':=s1.toks) hk;refine⟨_,[s1.heap.objs.size+1,s1.heap.objs.size],_,_,H1,rfl,I2,ziq (Nat.ne_of_gt (Nat.lt_succ_self _)) (Nat.ne_of_lt hlt) (Nat.ne_of_gt (Nat.lt_succ_of_lt hlt)),⟨⟨_,he⟩,hi⟩,λb hb=>?_,q⟩;have hb':s1.heap.objs.size<=b:=by
  simp only[List.mem_cons,List.not_mem_nil,or_false]at hb;rcases hb with rfl|rfl <;> omega
 exact I1.fpOk hb' (I1.hok.fresh hb')
theorem zpo{K:PySem.W.Frag}{Kp:Hp->Hp->Prop}{H1:Hp}{b:Bool}{a:Addr}{xs:List D}{vs:List V}(kp:∀H,Kp H1 H->SqG b K H a vs/\Reps K H xs vs):ItOk K Kp (zpn b K a) H1 (kr 0 xs) where
 go:=λH i d k e=>by
  obtain⟨hs,r⟩:=kp H k;obtain⟨y,e1,rfl⟩:=zer e;obtain⟨v,e2,r1⟩:=r.get e1;refine⟨⟨vs,v,hs,e2⟩,λx H' yl=>?_⟩;obtain⟨p,w,hp,rfl,rfl,y⟩:=yl;have:=y vs hs;rw[e2]at this
  cases this;refine⟨yk hp _,.tup (SqT.of zx) (.cons ?_ (.cons (r1.same (yk hp _)) .nil))⟩;rw[Nat.zero_add];exact .int
 stop:=λH k=>by
  obtain⟨hs,r⟩:=kp H k;exact⟨vs,hs,by rw[zes,r.length];exact Nat.le_refl _⟩
def zir(t:DTF):DTF:=λσ Q=>t σ λds=>match ds with
 |[.list xs]=>Q (kr 0 xs)
 |[.tuple xs]=>Q (kr 0 xs)
 |_=>False
theorem znf{elts:List Expr}{x1}{tpos:Pos}(hg:Gl X "enumerate")(hm:X.mg "enumerate" = none)(ha:DA X [a] t)(hs:starEach [a] X.env = [(false,eval a X.env)]:=by rfl):
  DI X (.Tuple elts x1 tpos) (.Call (.Name "enumerate" p) [a] [] pos) (zir t) :=
 ⟨λpins s σ H R I ⟨H₀,σD,QD,ok,q,k⟩=>zne hg hm ha.pa hs pins s σ H R I ⟨H₀,σD,_,ok,q,λvs H1 ds s1 r1 q1=>by
  have key:∀d xs,ds = [d]->(d=.list xs\/d=.tuple xs)->QD (kr 0 xs)->∃b a,vs = [.ref a]/\(∃xs,SqG b X.K H1 a xs)/\R (zpn b X.K a) H1:=λd xs e1 e2 q2=>by
   subst e1
   cases r1 with
   |cons r t=>
    cases t;obtain⟨b,l,ws,rfl,kk⟩:=r.seqP e2;exact⟨b,l,rfl,⟨ws,(kk _ (Pers.refl _)).1⟩,k _ _ _ s1 (zpo λH' pr=>kk H' pr) q2⟩
  split at q1
  ·exact key _ _ rfl (.inl rfl) q1
  ·exact key _ _ rfl (.inr rfl) q1
  ·exact q1.elim⟩⟩
end
theorem ki{α:Type}{f:D->(Option D->Prop)->Prop}(enc:α->D)(F:α->Option D){as:List α}{Q:List D->Prop}(h:∀a∈as,∀k:Option D->Prop,k (F a)->f (enc a) k)(q:Q (as.filterMap F)):lcD f (as.map enc) Q:=by
 induction as generalizing Q with
 |nil=>exact q
 |cons a as ih=>
  refine h a List.mem_cons_self _ (ih (λe he=>h e (List.mem_cons_of_mem _ he)) ?_);rw[List.filterMap_cons]at q
  cases e:F a with
  |none=>rw[e]at q;exact q
  |some y=>rw[e]at q;exact q
theorem va{α:Type}{f:D->(Option D->Prop)->Prop}(enc:α->D)(F:α->D){as:List α}{Q:List D->Prop}(h:∀a∈as,∀k:Option D->Prop,k (some (F a))->f (enc a) k)(q:Q (as.map F)):lcD f (as.map enc) Q :=
 ki enc (λa=>some (F a)) h (by rw[List.filterMap_eq_map'];exact q)
theorem zj8{α:Type}{Pv:α->Prop}{enc:α->D}:∀{ys:List D},(∀y∈ys,∃a,y=enc a/\Pv a)->∃as:List α,ys=as.map enc/\∀a∈as,Pv a
 |[],_=>⟨[],rfl,λa ha=>by cases ha⟩
 |y::ys,h=>by
  obtain⟨a,rfl,pa⟩:=h y List.mem_cons_self;obtain⟨as,rfl,pas⟩:=zj8 λz hz=>h z (List.mem_cons_of_mem _ hz);exact⟨a::as,rfl,λb hb=>by rcases List.mem_cons.mp hb with rfl|hb;exact pa;exact pas b hb⟩
theorem x5{α:Type}(x:α)(xs:List α):atI (x::xs) 0=some x:=by
 have:=zci (xs:=x::xs) (j:=0) (v:=x) rfl;simpa using this
theorem we{α:Type}(x y:α)(xs:List α):atI (x::y::xs) 1=some y:=by
 have:=zci (xs:=x::y::xs) (j:=1) (v:=y) rfl;simpa using this
theorem zis{α:Type}(enc:α->D)(xs:List α)(lo hi:Option Int):∃ys:List α,v0 (xs.map enc) lo hi=ys.map enc/\(∀y∈ys,y∈xs)/\ys.length<=xs.length:=by
 refine⟨(xs.drop (HT.sIx xs.length 0 lo)).take (HT.sIx xs.length xs.length hi-HT.sIx xs.length 0 lo),?_,λy hy=>List.mem_of_mem_drop (List.mem_of_mem_take hy),?_⟩
 ·unfold v0;rw[List.length_map,List.map_take,List.map_drop]
 ·rw[List.length_take,List.length_drop];omega
theorem zbx(xs:List D)(n:Nat):v0 xs none (some (n:Int))=xs.take n:=by
 unfold v0;rw[HT.sIx_none,HT.sIx_nat];simp
structure Sh(d:D)(n k:Nat):Prop where
 can:d.canLay0=true
 sho:d.showable=true
 dep:d.depth<=k
 len:d.shown.length<=n
theorem Sh.mono{d:D}{n k n' k':Nat}(h:Sh d n k)(h1:n<=n')(h2:k<=k'):Sh d n' k':=⟨h.can,h.sho,Nat.le_trans h.dep h2,Nat.le_trans h.len h1⟩
theorem Sh.none:Sh .none 4 0:=⟨rfl,rfl,Nat.le_refl _,Nat.le_of_ble_eq_true rfl⟩
theorem Sh.bool{b:Bool}:Sh (.bool b) 5 0:=⟨rfl,rfl,Nat.le_refl _,by cases b <;> exact Nat.le_of_ble_eq_true rfl⟩
theorem ztj{i:Int}(h:i.natAbs<10 ^ 40):i.natAbs.log2<1920:=by
 by_cases h0:i.natAbs=0
 ·rw[h0];decide
 ·exact(Nat.log2_lt h0).mpr (Nat.lt_of_lt_of_le h (Nat.le_trans (by decide:10 ^ 40<=2 ^ 200) (Nat.pow_le_pow_right (by decide) (by decide))))
theorem Sh.int{i:Int}(h:i.natAbs<10 ^ 40):Sh (.int i) 41 0 :=
 ⟨rfl,by simp only[PyData.showable];exact decide_eq_true (ztj h),Nat.le_refl _,by
  have:=int_text_length_le10 (a:=i) (k:=40) (by decide) h;simp only[PyData.shown];show(Str.ofString (toString i)).length<=41;rw[PySem.ofString_length];exact this⟩
theorem Sh.intB{i:Int}(h1 : -1000000000000000000000000000000000000000<=i)(h2:i<=1000000000000000000000000000000000000000):Sh (.int i) 41 0:=Sh.int (by omega)
theorem zbh:∀{xs:List D}{n k:Nat},(∀x∈xs,Sh x n k)->PyData.canLayAll0 xs=true
 |[],_,_,_=>rfl
 |x::xs,n,k,h=>by simp only[PyData.canLayAll0,(h x List.mem_cons_self).can,zbh λy hy=>h y (List.mem_cons_of_mem _ hy),Bool.and_self]
theorem zbi:∀{xs:List D}{n k:Nat},(∀x∈xs,Sh x n k)->PyData.showableAll xs=true
 |[],_,_,_=>rfl
 |x::xs,n,k,h=>by simp only[PyData.showableAll,(h x List.mem_cons_self).sho,zbi λy hy=>h y (List.mem_cons_of_mem _ hy),Bool.and_self]
theorem zbj:∀{xs:List D}{n k:Nat},(∀x∈xs,Sh x n k)->PyData.depthAll xs<=k
 |[],_,_,_=>Nat.zero_le _
 |x::xs,n,k,h=>by
  simp only[PyData.depthAll];exact Nat.max_le.mpr ⟨(h x List.mem_cons_self).dep,zbj λy hy=>h y (List.mem_cons_of_mem _ hy)⟩
theorem zbk:∀{xs:List D}{n k:Nat},(∀x∈xs,Sh x n k)->((PyData.shownAll xs).map (·.length)).sum<=xs.length * n
 |[],_,_,_=>by simp[PyData.shownAll]
 |x::xs,n,k,h=>by
  simp only[PyData.shownAll,List.map_cons,List.sum_cons,List.length_cons];have h1:=(h x List.mem_cons_self).len;have h2:=zbk λy hy=>h y (List.mem_cons_of_mem _ hy);rw[Nat.succ_mul];omega
theorem vf:∀xs:List D,(PyData.shownAll xs).length=xs.length
 |[]=>rfl
 |x::xs=>by simp only[PyData.shownAll,List.length_cons,vf xs]
theorem Sh.lst{xs:List D}{n k m:Nat}(h:∀x∈xs,Sh x n k)(hl:xs.length<=m):Sh (.list xs) (m *(n+2)+3) (k+1) where
 can:=by simpa[PyData.canLay0]using zbh h
 sho:=by simpa[PyData.showable]using zbi h
 dep:=by simp only[PyData.depth];have:=zbj h;omega
 len:=by
  simp only[PyData.shown];have h1:=listText_len_le (PyData.shownAll xs);have h2:=zbk h;rw[vf]at h1;have h3:xs.length *(n+2)<=m *(n+2):=Nat.mul_le_mul_right _ hl;rw[Nat.mul_add]at h3;omega
theorem Sh.tup{xs:List D}{n k m:Nat}(h:∀x∈xs,Sh x n k)(hl:xs.length<=m):Sh (.tuple xs) (m *(n+2)+3) (k+1) where
 can:=by simpa[PyData.canLay0]using zbh h
 sho:=by simpa[PyData.showable]using zbi h
 dep:=by simp only[PyData.depth];have:=zbj h;omega
 len:=by
  simp only[PyData.shown];have h1:=tupleText_len_le (PyData.shownAll xs);have h2:=zbk h;rw[vf]at h1;have h3:xs.length *(n+2)<=m *(n+2):=Nat.mul_le_mul_right _ hl;rw[Nat.mul_add]at h3;omega
theorem Sh.lay{d:D}{n k:Nat}(h:Sh d n k)(hk:k<=64):Lay d:=by
 unfold Lay SeqAt.shaped;rw[Bool.and_eq_true];exact⟨h.can,decide_eq_true (Nat.le_trans h.dep hk)⟩
theorem Lay.int(i:Int):Lay (.int i):=rfl
theorem Lay.none:Lay .none:=rfl
theorem Lay.bool(b:Bool):Lay (.bool b):=rfl
theorem jd{d:D}(h:Lay d):PyData.eqv d d=true:=SeqAt.eqv_refl d h.can
theorem zng(ns:List Int):Lay (.list (ns.map PyData.int)):=by
 have h:∀ns:List Int,PyData.canLayAll0 (ns.map PyData.int)=true/\PyData.depthAll (ns.map PyData.int)=0:=λns=>by
  induction ns with
  |nil=>exact⟨rfl,rfl⟩
  |cons n ns ih=>simp[PyData.canLayAll0,PyData.depthAll,PyData.canLay0,PyData.depth,ih.1,ih.2]
 unfold Lay SeqAt.shaped;simp[PyData.canLay0,PyData.depth,(h ns).1,(h ns).2]
theorem zj9{m:Int}{Q:Ret->Prop}(h1:0<m)(h2:m<10000000000000000000000000000000000000000000000000000000000000)(q:∀v:Int,0<=v->v<m->Q (.val (.int v))):vm [.pen,.val (.int m)] Q:=⟨m,rfl,h1,h2,q⟩
theorem zan{α:Type}{p:α->Prop}{a:α}{l:List α}(h:p a)(t:∀y∈l,p y):∀y∈a::l,p y:=λy hy=>(List.mem_cons.mp hy).elim (λe=>by rw[e];exact h) (t y)
theorem znh{α:Type}{p:α->Prop}:∀y∈([]:List α),p y:=λy hy=>by cases hy
section
variable {X:Cx}
end
section
variable {X:Cx}
end
end L2
set_option maxHeartbeats 4000000
namespace PySem
section
variable {prog:Program}{w:World}{A:Around}{R:Result->Shared->Prop}{I:Addr}{fp wr:List Addr}{n:Nat}{P:Nat->Value->Prop}{St:Nat->Heap->Prop}
end
section
variable {prog:Program}{w:World}{A:Around}{E:Value->Shared->Prop}{s:Shared}{l:Addr}{its:Array Value}{d:Value}
end
section
variable {prog:Program}{w:World}{A:Around}{R:Result->Shared->Prop}{I:Addr}{fp wr:List Addr}{n:Nat}{P:Nat->Value->Prop}{St:Nat->Heap->Prop}
end
section
variable {prog:Program}{w:World}{A:Around}{E:Value->Shared->Prop}{s:Shared}{l:Addr}{its:Array Value}{d:Value}
end
end PySem
namespace L2
open PySem PySem.Spec PyProof.Rows
section
variable {X:Cx}{a d e:Expr}{ta:DTF}{td te:DTE}{p pos kp:Pos}
end
theorem atI_end{α:Type}(xs:List α)(x:α):atI (xs ++ [x]) (-1)=some x:=zgs xs x
theorem sliceD_take0(xs:List D){n:Int}(h:0<=n):v0 xs none (some n)=xs.take n.toNat:=by
 have:=zbx xs n.toNat;rw[Int.toNat_of_nonneg h]at this;exact this
theorem zaa(lo:Int)(n:Nat):(wa lo n).length=n:=by simp[wa]
theorem zlj(ns:List Int):Lay (.tuple (ns.map PyData.int)):=by
 have:=zng ns;unfold Lay SeqAt.shaped at this ⊢;simpa[PyData.canLay0,PyData.depth]using this
theorem zab{x y:D}{A B:Prop}(l:Lay x)(e:x=y)(h:B):Lay x/\Lay y/\if PyData.eqv x y=false then A else B:=by
 subst e;refine⟨l,l,?_⟩;rw[jd l,if_neg (by decide)];exact h
theorem Lay.list{xs:List D}(h:∀x∈xs,Lay x/\x.depth<=63):Lay (.list xs):=by
 unfold Lay SeqAt.shaped;rw[Bool.and_eq_true];have h1:PyData.canLayAll0 xs=true:=by
  induction xs with
  |nil=>rfl
  |cons x xs ih=>
   simp only[PyData.canLayAll0,Bool.and_eq_true];exact⟨(h x List.mem_cons_self).1.can,ih λy hy=>h y (List.mem_cons_of_mem _ hy)⟩
 have h2:PyData.depthAll xs<=63:=by
  clear h1
  induction xs with
  |nil=>simp[PyData.depthAll]
  |cons x xs ih=>
   simp only[PyData.depthAll];have:=(h x List.mem_cons_self).2;have:=ih λy hy=>h y (List.mem_cons_of_mem _ hy);omega
 refine⟨by simpa[PyData.canLay0]using h1,decide_eq_true ?_⟩;simp only[PyData.depth];omega
theorem zg6{g:DTG}{tb:DTS}{Dn:vj}{ds:List D}{σ:DSt}(S:DSt->Prop)(h0:S σ)(hs:∀d∈ds,∀σ (N:DSt->Prop),S σ->(∀σ',S σ'->N σ')->g d σ λσ2=>tb { Dn with nx:=N,ct:=N,bk:=Dn.nx } σ2)(hd:∀σ,S σ->Dn.nx σ):zc3 g tb Dn ds σ:=by
 refine xx (λds' σ=>(∀d∈ds',d∈ds)/\S σ) ?_ (λσ h=>hd σ h.2) ⟨λ_ h=>h,h0⟩;rintro d ds' σ N ⟨h1,h2⟩ k;exact hs d (h1 d List.mem_cons_self) σ N h2 λσ' h'=>k σ' ⟨λx hx=>h1 x (List.mem_cons_of_mem _ hx),h'⟩
section
variable {X:Cx}{e:Expr}{p pos:Pos}
end
end L2
namespace SQ
open PySem PyProof.Rows
set_option autoImplicit false
section
variable (prog:Program)(w:World)(A:Around)(s:Shared)(κ:KeyKind)(kd:SortKind)
def zao:Prop:=∀(E:Value->Shared->Prop) (x y:Value) (a b:κ.α) (Q:Bool->Shared->Prop),κ.keyOf x=some a->κ.keyOf y=some b->Q (κ.blt a b) s->wpAny (model prog w) A (keyLt' kd x y) Q E s
end
structure SG(kd:SortKind)(a₀:Array Keyed)(st:SortSt):Prop where
 perm:(arrOf st).Perm a₀
 kind:kindOf st=kd
 fail:failedOf st=none
theorem SG.sz{kd:SortKind}{a₀:Array Keyed}{st:SortSt}(g:SG kd a₀ st):(arrOf st).size=a₀.size:=g.perm.size_eq
theorem SG.arr{kd:SortKind}{a₀:Array Keyed}{st:SortSt}(g:SG kd a₀ st){xs:Array Keyed}(p:xs.Perm (arrOf st)):SG kd a₀ (setArr st xs):=⟨p.trans g.perm,g.kind,g.fail⟩
structure Mv(lo hi:Nat)(st st':SortSt):Prop where
 out:∀k,(k<lo\/hi<=k)->(arrOf st')[k]?=(arrOf st)[k]?
 pend:pendingOf st'=pendingOf st
theorem Mv.refl(lo hi:Nat)(st:SortSt):Mv lo hi st st:=⟨λ_ _=>rfl,rfl⟩
theorem Mv.trans{lo hi:Nat}{a b c:SortSt}(h1:Mv lo hi a b)(h2:Mv lo hi b c):Mv lo hi a c:=⟨λk hk=>(h2.out k hk).trans (h1.out k hk),h2.pend.trans h1.pend⟩
theorem Mv.mono{lo hi lo' hi':Nat}{a b:SortSt}(h:Mv lo hi a b)(h1:lo'<=lo)(h2:hi<=hi'):Mv lo' hi' a b:=⟨λk hk=>h.out k (by omega),h.pend⟩
abbrev Up(κ:KeyKind)(xs:Array Keyed)(lo n:Nat):Prop:=∀i j,lo<=i->i<=j->j<lo+n->κ.kle (KK κ xs i) (KK κ xs j)
abbrev Dn(κ:KeyKind)(xs:Array Keyed)(lo n:Nat):Prop:=∀i j,lo<=i->i<=j->j<lo+n->κ.kle (KK κ xs j) (KK κ xs i)
theorem jo{st:SortSt}{i j lo hi:Nat}(hj:j<=(arrOf st).size)(h1:lo<=i)(h2:j<=hi):Mv lo hi st (setArr st (mirror (arrOf st) i j ((j-i) / 2))) :=
 ⟨λk hk=>by
  show(mirror (arrOf st) i j ((j-i) / 2))[k]?=_;rw[getElem?_mirror_all hj,if_neg (by omega)],rfl⟩
section
variable {prog:Program}{w:World}{A:Around}{E:Value->Shared->Prop}{s:Shared}{κ:KeyKind}{kd:SortKind}{a₀:Array Keyed}
theorem SG.key{st:SortSt}(g:SG kd a₀ st)(h0:KeysOf κ a₀){i:Nat}(hi:i<a₀.size):∃x p,(arrOf st)[i]?=some (x,p)/\κ.keyOf x=some (KK κ (arrOf st) i):=by
 have l:i<(arrOf st).size:=by rw[g.sz];exact hi
 obtain⟨a,ha⟩:=h0 ((arrOf st)[i]) ((Array.perm_iff_toList_perm.mp g.perm).mem_iff.mp (by simp));have e:(arrOf st)[i]?=some (arrOf st)[i]:=getElem?_pos _ i l;refine⟨(arrOf st)[i].1,(arrOf st)[i].2,e,?_⟩;rw[ha];unfold KK;rw[e];simp[ha]
theorem zwq{st:SortSt}{x y:Keyed}{a b:κ.α}{Q:Option Bool->SortSt->Prop}(L:zao prog w A s κ kd)(hk:kindOf st=kd)(ha:κ.keyOf x.1=some a)(hb:κ.keyOf y.1=some b)(q:Q (some (κ.blt a b)) st):
  wpS (model prog w) A E s (lt' x y) Q st:=by
 rw[lt'_eq];refine wpS_bind (wpS_get ?_);rw[hk];exact wpS_bind (wpS_lift (wpAny_attempt (L _ x.1 y.1 a b _ ha hb ⟨rfl,wpS_pure q⟩)))
theorem zni{st:SortSt}{xs:Array Keyed}{i:Nat}{p:Keyed}{Q:Keyed->SortSt->Prop}(e:xs[i]?=some p)(q:Q p st):wpS (model prog w) A E s (elem' xs i) Q st:=by
 rw[elem'_eq,e];exact wpS_pure q
theorem zc4{st:SortSt}{i j:Nat}{Q:Option Bool->SortSt->Prop}(L:zao prog w A s κ kd)(g:SG kd a₀ st)(h0:KeysOf κ a₀)(hi:i<a₀.size)(hj:j<a₀.size)
  (q:Q (some (κ.blt (KK κ (arrOf st) i) (KK κ (arrOf st) j))) st):wpS (model prog w) A E s (ltAt' i j) Q st:=by
 obtain⟨x,p,e1,k1⟩:=g.key h0 hi;obtain⟨y,r,e2,k2⟩:=g.key h0 hj;rw[ltAt'_eq];refine wpS_bind (wpS_get ?_);exact wpS_bind (zni e1 (wpS_bind (zni e2 (zwq L g.kind k1 k2 q))))
theorem zka{st:SortSt}{i j:Nat}{Q:Unit->SortSt->Prop}(q:Q () (setArr st (mirror (arrOf st) i j ((j-i) / 2)))):wpS (model prog w) A E s (reverseSlice' i j) Q st:=by
 rw[reverseSlice'_eq];exact wpS_modify q
def zc5(lo a m:Nat):StateT SortSt Sem (Option (Option Nat)×Nat) :=
 forIn [a:m] ((none,a):Option (Option Nat)×Nat) λ_ c=>do
  let o <-ltAt' (lo+c.snd) (lo+c.snd-1)
  match o with
  |some less=>if less=true then pure (ForInStep.done (none,c.snd)) else pure (ForInStep.yield (none,c.snd+1))
  |_=>pure (ForInStep.done (some none,c.snd))
def zc6(lo n m:Nat):StateT SortSt Sem (Option Nat):=do
 reverseSlice' lo (lo+n)
 let c <-zc5 lo n m
 match c.fst with
 |some r=>pure r
 |none=>pure (some c.snd)
def zfq(lo n m:Nat):StateT SortSt Sem (Option (Option Nat)×Nat×Nat) :=
 forIn [n:m] ((none,n,0):Option (Option Nat)×Nat×Nat) λ_ c=>do
  let o <-ltAt' (lo+c.snd.fst) (lo+c.snd.fst-1)
  match o with
  |some less=>
   if less=true then
    if c.snd.snd > 0 then do
     reverseSlice' (lo+c.snd.fst-(c.snd.snd+1)) (lo+c.snd.fst)
     pure (ForInStep.yield (none,c.snd.fst+1,0))
    else pure (ForInStep.yield (none,c.snd.fst+1,0))
   else do
    let o <-ltAt' (lo+c.snd.fst-1) (lo+c.snd.fst)
    match o with
    |some more=>
     if more=true then pure (ForInStep.done (none,c.snd.fst,c.snd.snd))
     else pure (ForInStep.yield (none,c.snd.fst+1,c.snd.snd+1))
    |_=>pure (ForInStep.done (some none,c.snd.fst,c.snd.snd))
  |_=>pure (ForInStep.done (some none,c.snd.fst,c.snd.snd))
def zg7(lo n m:Nat):StateT SortSt Sem (Option Nat):=do
 liftM (rule "list.sort.descending-run")
 let c <-zfq lo (n+1) m
 match c.fst with
 |some r=>pure r
 |none=>
  if c.snd.snd > 0 then do
   reverseSlice' (lo+c.snd.fst-(c.snd.snd+1)) (lo+c.snd.fst)
   zc6 lo c.snd.fst m
  else zc6 lo c.snd.fst m
theorem zb8(lo m:Nat):countRun' lo m=(do
  let c <-zc5 lo 1 m
  match c.fst with
  |some r=>pure r
  |none=>
   if (c.snd == m)=true then pure (some c.snd)
   else if c.snd > 1 then do
    let o <-ltAt' lo (lo+c.snd-1)
    match o with
    |some rose=>if rose=true then pure (some c.snd) else do
      reverseSlice' lo (lo+c.snd)
      zg7 lo c.snd m
    |_=>pure none
   else zg7 lo c.snd m):=by
 rw[countRun'_eq];unfold zg7 zc6 zfq zc5;dsimp only;congr 1
 funext c
 obtain⟨r,n⟩:=c
 cases r with
 |some r=>rfl
 |none=>
  dsimp only
  split
  ·rfl
  ·split
   ·congr 1
    funext x
    cases x with
    |none=>rfl
    |some rose=>
     dsimp only
     split
     ·rfl
     ·congr 1
      funext _
      congr 1;funext _;congr 1;congr 1;funext c2;obtain⟨r2,n2,q2⟩:=c2;cases r2 with
      |some r2=>rfl
      |none=>
       dsimp only
       split
       ·congr 1;funext _;congr 1;funext _;congr 1;funext c3;obtain⟨r3,n3⟩:=c3;cases r3 <;> rfl
       ·congr 1;funext _;congr 1;funext c3;obtain⟨r3,n3⟩:=c3;cases r3 <;> rfl
   ·congr 1;funext _;congr 1;congr 1;funext c2;obtain⟨r2,n2,q2⟩:=c2;cases r2 with
    |some r2=>rfl
    |none=>
     dsimp only
     split
     ·congr 1;funext _;congr 1;funext _;congr 1;funext c3;obtain⟨r3,n3⟩:=c3;cases r3 <;> rfl
     ·congr 1;funext _;congr 1;funext c3;obtain⟨r3,n3⟩:=c3;cases r3 <;> rfl
end
end SQ
namespace SQ
open PySem PyProof.Rows
set_option autoImplicit false
section
variable {prog:Program}{w:World}{A:Around}{E:Value->Shared->Prop}{s:Shared}{κ:KeyKind}{kd:SortKind}{a₀:Array Keyed}
theorem Up.next{xs:Array Keyed}{lo n:Nat}(h:Up κ xs lo n)(h1:1<=n)(c:κ.blt (KK κ xs (lo+n)) (KK κ xs (lo+n-1))=false):Up κ xs lo (n+1):=λi j a b d=>by
 by_cases e:j<lo+n
 ·exact h i j a b e
 ·have ej:j=lo+n:=by omega
  subst ej
  by_cases e2:i=lo+n
  ·subst e2;exact KeyOrd.kle_refl _
  ·exact KeyOrd.kle_trans (h i (lo+n-1) a (by omega) (by omega)) c
theorem zvi{st:SortSt}{lo a m:Nat}{Q:Option (Option Nat)×Nat->SortSt->Prop}(L:zao prog w A s κ kd)(h0:KeysOf κ a₀)(g:SG kd a₀ st)(hm:lo+m<=a₀.size)(ha:1<=a)(hu:Up κ (arrOf st) lo a)(ham:a<=m)
  (q:∀n,a<=n->n<=m->Up κ (arrOf st) lo n->(n=m\/κ.klt (KK κ (arrOf st) (lo+n)) (KK κ (arrOf st) (lo+n-1)))->Q (none,n) st):wpS (model prog w) A E s (zc5 lo a m) Q st:=by
 unfold zc5;refine wpS_forRange (I:=λx c st'=>st'=st/\c=(none,x)/\Up κ (arrOf st) lo x) (λx c st' hx1 hx2 h=>?_) (λc st' h=>?_) ⟨rfl,rfl,hu⟩
 ·obtain⟨rfl,rfl,hx⟩:=h;dsimp only;refine wpS_bind (zc4 L g h0 (by omega) (by omega) ?_)
  cases cb:κ.blt (KK κ (arrOf st') (lo+x)) (KK κ (arrOf st') (lo+x-1)) with
  |true=>exact wpS_pure (q x hx1 (by omega) hx (.inr cb))
  |false=>exact wpS_pure ⟨rfl,rfl,hx.next (by omega) cb⟩
 ·obtain⟨rfl,rfl,hx⟩:=h;rw[show max a m=m by omega]at hx ⊢;exact q m ham (Nat.le_refl _) hx (.inl rfl)
theorem zrb{st st0:SortSt}{lo n m:Nat}{Q:Option Nat->SortSt->Prop}(L:zao prog w A s κ kd)(h0:KeysOf κ a₀)(g:SG kd a₀ st)(hm:lo+m<=a₀.size)(h1:1<=n)(hnm:n<=m)(hd:Dn κ (arrOf st) lo n)(mv:Mv lo (lo+m) st0 st)
  (q:∀k st',SG kd a₀ st'->Mv lo (lo+m) st0 st'->1<=k->k<=m->Up κ (arrOf st') lo k->Q (some k) st'):wpS (model prog w) A E s (zc6 lo n m) Q st:=by
 unfold zc6;have sz:lo+n<=(arrOf st).size:=by rw[g.sz];omega
 refine wpS_bind (zka ?_);have g':=g.arr (mirror_perm (arrOf st) lo (lo+n) ((lo+n-lo) / 2));refine wpS_bind (zvi L h0 g' hm h1 (λi j a b c=>?_) hnm λk k1 k2 hk _=>wpS_pure (q k _ g' (mv.trans (jo sz (Nat.le_refl _) (by omega))) (by omega) k2 hk));show κ.kle (KK κ (mirror (arrOf st) lo (lo+n) ((lo+n-lo) / 2)) i) (KK κ (mirror (arrOf st) lo (lo+n) ((lo+n-lo) / 2)) j);rw[KK_mirror sz,KK_mirror sz,if_pos (by omega),if_pos (by omega)];exact hd _ _ (by omega) (by omega) (by omega)
theorem Dn.next{xs:Array Keyed}{lo n:Nat}(h:Dn κ xs lo n)(h1:1<=n)(c:κ.kle (KK κ xs (lo+n)) (KK κ xs (lo+n-1))):Dn κ xs lo (n+1):=λi j a b d=>by
 by_cases e:j<lo+n
 ·exact h i j a b e
 ·have ej:j=lo+n:=by omega
  subst ej
  by_cases e2:i=lo+n
  ·subst e2;exact KeyOrd.kle_refl _
  ·exact KeyOrd.kle_trans c (h i (lo+n-1) a (by omega) (by omega))
theorem zfr{xs:Array Keyed}{i j:Nat}(hj:j<=xs.size)(he:∀k,i<=k->k<j->KK κ xs k=KK κ xs (j-1))(k:Nat):KK κ (mirror xs i j ((j-i) / 2)) k=KK κ xs k:=KK_mirror_equal hj he k
theorem zwr{st:SortSt}{lo n m:Nat}{Q:Option (Option Nat)×Nat×Nat->SortSt->Prop}(L:zao prog w A s κ kd)(h0:KeysOf κ a₀)(g:SG kd a₀ st)(hm:lo+m<=a₀.size)(h1:1<=n)(hnm:n<=m)(hd:Dn κ (arrOf st) lo n)
  (q:∀k e st',SG kd a₀ st'->Mv lo (lo+m) st st'->n<=k->k<=m->Dn κ (arrOf st') lo k->e+1<=k->(∀i,lo+k-(e+1)<=i->i<lo+k->KK κ (arrOf st') i=KK κ (arrOf st') (lo+k-1))->Q (none,k,e) st'):wpS (model prog w) A E s (zfq lo n m) Q st:=by
 unfold zfq;refine wpS_forRange (I:=λx c st'=>∃e,c=(none,x,e)/\SG kd a₀ st'/\Mv lo (lo+m) st st'/\Dn κ (arrOf st') lo x/\e+1<=x/\(∀i,lo+x-(e+1)<=i->i<lo+x->KK κ (arrOf st') i=KK κ (arrOf st') (lo+x-1))) (λx c st' hx1 hx2 h=>?_) (λc st' h=>?_) ⟨0,rfl,g,Mv.refl _ _ _,hd,by omega,λi a b=>by rw[show i=lo+n-1 by omega]⟩
 ·obtain⟨e,rfl,g',mv,hx,he,heq⟩:=h;dsimp only;refine wpS_bind (zc4 L g' h0 (by omega) (by omega) ?_)
  cases cb:κ.blt (KK κ (arrOf st') (lo+x)) (KK κ (arrOf st') (lo+x-1)) with
  |true=>
   dsimp only;rw[if_pos rfl]
   by_cases ce:e > 0
   ·rw[if_pos ce];refine wpS_bind (zka (wpS_pure ?_));have sz:lo+x<=(arrOf st').size:=by rw[g'.sz];omega
    have kf:=zfr (κ:=κ) (xs:=arrOf st') (i:=lo+x-(e+1)) (j:=lo+x) sz heq;refine⟨0,rfl,g'.arr (mirror_perm _ _ _ _),mv.trans (jo sz (by omega) (by omega)),?_,by omega,λi a b=>by rw[show i=lo+(x+1)-1 by omega]⟩;refine Dn.next (λi j a b d=>?_) (by omega) ?_
    ·show κ.kle (KK κ (mirror _ _ _ _) j) (KK κ (mirror _ _ _ _) i);rw[kf,kf];exact hx i j a b d
    ·show κ.kle (KK κ (mirror _ _ _ _) _) (KK κ (mirror _ _ _ _) _);rw[kf,kf];exact KeyOrd.kle_of_klt cb
   ·rw[if_neg ce];exact wpS_pure ⟨0,rfl,g',mv,hx.next (by omega) (KeyOrd.kle_of_klt cb),by omega,λi a b=>by rw[show i=lo+(x+1)-1 by omega]⟩
  |false=>
   dsimp only;rw[if_neg (by decide)];refine wpS_bind (zc4 L g' h0 (by omega) (by omega) ?_)
   cases cc:κ.blt (KK κ (arrOf st') (lo+x-1)) (KK κ (arrOf st') (lo+x)) with
   |true=>exact wpS_pure (q x e st' g' mv hx1 (by omega) hx he heq)
   |false=>
    have same:KK κ (arrOf st') (lo+x)=KK κ (arrOf st') (lo+x-1):=KeyOrd.kle_antisymm cc cb;refine wpS_pure ⟨e+1,rfl,g',mv,hx.next (by omega) cc,by omega,λi a b=>?_⟩;rw[show lo+(x+1)-1=lo+x by omega]
    by_cases ei:i=lo+x
    ·rw[ei]
    ·rw[heq i (by omega) (by omega),same]
 ·obtain⟨e,rfl,g',mv,hx,he,heq⟩:=h;rw[show max n m=m by omega]at *;exact q m e st' g' mv hnm (Nat.le_refl _) hx he heq
theorem zkb{st st0:SortSt}{lo n m:Nat}{Q:Option Nat->SortSt->Prop}(L:zao prog w A s κ kd)(h0:KeysOf κ a₀)(g:SG kd a₀ st)(hm:lo+m<=a₀.size)(h1:1<=n)(hnm:n+1<=m)(hd:Dn κ (arrOf st) lo (n+1))(mv:Mv lo (lo+m) st0 st)
  (q:∀k st',SG kd a₀ st'->Mv lo (lo+m) st0 st'->1<=k->k<=m->Up κ (arrOf st') lo k->Q (some k) st'):wpS (model prog w) A E s (zg7 lo n m) Q st:=by
 unfold zg7;refine wpS_bind (wpS_lift (wpAny_rule ⟨rfl,?_⟩));refine wpS_bind (zwr L h0 g hm (by omega) hnm hd λk e st' g' mv' k1 k2 hk he heq=>?_);dsimp only
 by_cases ce:e > 0
 ·rw[if_pos ce];have sz:lo+k<=(arrOf st').size:=by rw[g'.sz];omega
  have kf:=zfr (κ:=κ) (xs:=arrOf st') (i:=lo+k-(e+1)) (j:=lo+k) sz heq;refine wpS_bind (zka (zrb L h0 (g'.arr (mirror_perm _ _ _ _)) hm (by omega) k2 (λi j a b d=>?_) ((mv.trans mv').trans (jo sz (by omega) (by omega))) q));show κ.kle (KK κ (mirror _ _ _ _) j) (KK κ (mirror _ _ _ _) i);rw[kf,kf];exact hk i j a b d
 ·rw[if_neg ce];exact zrb L h0 g' hm (by omega) k2 hk (mv.trans mv') q
theorem zit{st:SortSt}{lo m:Nat}{Q:Option Nat->SortSt->Prop}(L:zao prog w A s κ kd)(h0:KeysOf κ a₀)(g:SG kd a₀ st)(hm:lo+m<=a₀.size)(h1:1<=m)
  (q:∀k st',SG kd a₀ st'->Mv lo (lo+m) st st'->1<=k->k<=m->Up κ (arrOf st') lo k->Q (some k) st'):wpS (model prog w) A E s (countRun' lo m) Q st:=by
 rw[zb8];refine wpS_bind (zvi L h0 g hm (Nat.le_refl _) (λi j a b c=>by rw[show i=j by omega];exact KeyOrd.kle_refl _) h1 λn n1 n2 hn hz=>?_);dsimp only
 by_cases e:n=m
 ·rw[if_pos (by simpa using e)];exact wpS_pure (q n st g (Mv.refl _ _ _) n1 n2 hn)
 ·rw[if_neg (by simpa using e)];have down:=hz.resolve_left e
  by_cases e1:n > 1
  ·rw[if_pos e1];refine wpS_bind (zc4 L g h0 (by omega) (by omega) ?_)
   cases cb:κ.blt (KK κ (arrOf st) lo) (KK κ (arrOf st) (lo+n-1)) with
   |true=>exact wpS_pure (q n st g (Mv.refl _ _ _) n1 n2 hn)
   |false=>
    dsimp only;rw[if_neg (by decide)];have all:∀k,lo<=k->k<lo+n->KK κ (arrOf st) k=KK κ (arrOf st) (lo+n-1):=λk a b=>
     KeyOrd.kle_antisymm (hn k (lo+n-1) a (by omega) (by omega)) (KeyOrd.kle_trans cb (hn lo k (Nat.le_refl _) a b))
    have sz:lo+n<=(arrOf st).size:=by rw[g.sz];omega
    have kf:=zfr (κ:=κ) (xs:=arrOf st) (i:=lo) (j:=lo+n) sz all;refine wpS_bind (zka (zkb L h0 (g.arr (mirror_perm _ _ _ _)) hm n1 (by omega) (Dn.next (λi j a b d=>?_) n1 ?_) (jo sz (Nat.le_refl _) (by omega)) q))
    ·show κ.kle (KK κ (mirror _ _ _ _) j) (KK κ (mirror _ _ _ _) i);rw[kf,kf,all j (by omega) d,all i a (by omega)];exact KeyOrd.kle_refl _
    ·show κ.kle (KK κ (mirror _ _ _ _) _) (KK κ (mirror _ _ _ _) _);rw[kf,kf];exact KeyOrd.kle_of_klt down
  ·rw[if_neg e1];refine zkb L h0 g hm n1 (by omega) (Dn.next (λi j a b d=>by rw[show i=j by omega];exact KeyOrd.kle_refl _) n1 (KeyOrd.kle_of_klt down)) (Mv.refl _ _ _) q
theorem znj{st:SortSt}{lo n ok:Nat}{Q:Bool->SortSt->Prop}(L:zao prog w A s κ kd)(h0:KeysOf κ a₀)(g:SG kd a₀ st)(hn:lo+n<=a₀.size)(hok:ok<=n)(hu:Up κ (arrOf st) lo ok)
  (q:∀st',SG kd a₀ st'->Mv lo (lo+n) st st'->Up κ (arrOf st') lo n->Q true st'):wpS (model prog w) A E s (binarySort' lo n ok) Q st:=by
 rw[binarySort'_eq];refine wpS_bind (wpS_mono (wpS_forRange (I:=λk c st'=>c=(none,())/\SG kd a₀ st'/\Mv lo (lo+n) st st'/\Up κ (arrOf st') lo (min k n))
  (Q:=λc st'=>c=(none,())/\SG kd a₀ st'/\Mv lo (lo+n) st st'/\Up κ (arrOf st') lo n) (λk c st' hk1 hk2 h=>?_) (λc st' h=>?_) ⟨rfl,g,Mv.refl _ _ _,λi j a b d=>?_⟩) (λc st' h=>?_))
 ·obtain⟨rfl,g',mv,hs⟩:=h;rw[show min k n=k by omega]at hs
  refine wpS_bind (wpS_mono (wpS_forRange (I:=λx c z=>z=st'/\∃l r,c=(none,l,r)/\l<=r/\r<=k/\r-l<=k-x/\(∀i,lo<=i->i<lo+l->κ.kle (KK κ (arrOf st') i) (KK κ (arrOf st') (lo+k)))/\(∀i,lo+r<=i->i<lo+k->κ.klt (KK κ (arrOf st') (lo+k)) (KK κ (arrOf st') i)))
   (Q:=λc z=>z=st'/\∃l r,c=(none,l,r)/\l<=k/\(∀i,lo<=i->i<lo+l->κ.kle (KK κ (arrOf st') i) (KK κ (arrOf st') (lo+k)))/\(∀i,lo+l<=i->i<lo+k->κ.klt (KK κ (arrOf st') (lo+k)) (KK κ (arrOf st') i)))
   (λx c z hx1 hx2 h=>?_) (λc z h=>?_) ⟨rfl,0,k,rfl,by omega,by omega,by omega,λi a b=>by omega,λi a b=>by omega⟩) (λc z h=>?_))
  ·obtain⟨rfl,l,r,rfl,p1,p2,p3,p4,p5⟩:=h;dsimp only
   by_cases e:l ≥ r
   ·rw[if_pos e];have:l=r:=by omega
    subst this;exact wpS_pure ⟨rfl,l,l,rfl,p2,p4,p5⟩
   ·rw[if_neg e];refine wpS_bind (zc4 L g' h0 (by omega) (by omega) ?_)
    cases cb:κ.blt (KK κ (arrOf z) (lo+k)) (KK κ (arrOf z) (lo+(l+r) / 2)) with
    |true=>exact wpS_pure ⟨rfl,l,(l+r) / 2,rfl,by omega,by omega,by omega,p4,λi a b=>KeyOrd.klt_of_klt_of_kle cb (hs _ _ (by omega) a (by omega))⟩
    |false=>exact wpS_pure ⟨rfl,(l+r) / 2+1,r,rfl,by omega,by omega,by omega,λi a b=>KeyOrd.kle_trans (hs i (lo+(l+r) / 2) a (by omega) (by omega)) cb,p5⟩
  ·obtain⟨rfl,l,r,rfl,p1,p2,p3,p4,p5⟩:=h;have:l=r:=by omega
   subst this;exact⟨rfl,l,l,rfl,p2,p4,p5⟩
  ·obtain⟨rfl,l,r,rfl,p2,p4,p5⟩:=h;show wpS _ _ _ _ (do moveDown' (lo+k) (lo+l);pure (ForInStep.yield (none,()))) _ _;rw[moveDown'_eq];have sz:lo+k<(arrOf z).size:=by rw[g'.sz];omega
   refine wpS_bind (wpS_modify (wpS_pure ⟨rfl,g'.arr (bubble_perm _ _ _),mv.trans ⟨λi hi=>?_,rfl⟩,?_⟩))
   ·show(bubble (arrOf z) (lo+k) (lo+k-(lo+l)))[i]?=_;rw[getElem?_bubble sz _ (by omega),if_neg (by omega),if_neg (by omega)]
   ·rw[show min (k+1) n=k+1 by omega];intro i j a b d;show κ.kle (KK κ (bubble (arrOf z) (lo+k) (lo+k-(lo+l))) i) (KK κ (bubble (arrOf z) (lo+k) (lo+k-(lo+l))) j);rw[KK_bubble sz (by omega),KK_bubble sz (by omega),show lo+k-(lo+k-(lo+l))=lo+l by omega]
    repeat' split
    all_goals first
     |(exfalso;omega)
     |exact KeyOrd.kle_refl _
     |exact p4 _ (by omega) (by omega)
     |exact KeyOrd.kle_of_klt (p5 _ (by omega) (by omega))
     |exact hs _ _ (by omega) (by omega) (by omega)
 ·obtain⟨h1,h2,h3,h4⟩:=h;rw[show min (max (max ok 1) n) n=n by omega]at h4;exact⟨h1,h2,h3,h4⟩
 ·by_cases e:ok=0
  ·rw[show i=j by omega];exact KeyOrd.kle_refl _
  ·exact hu i j a b (by omega)
 ·obtain⟨rfl,h2,h3,h4⟩:=h;exact wpS_pure (q st' h2 h3 h4)
end
end SQ
namespace SQ
open PySem PyProof.Rows
set_option autoImplicit false
section
variable {prog:Program}{w:World}{A:Around}{E:Value->Shared->Prop}{s:Shared}{κ:KeyKind}{kd:SortKind}
end
end SQ
namespace SQ
open PySem PyProof.Rows
set_option autoImplicit false
def kk(κ:KeyKind)(p:Keyed):κ.α:=(κ.keyOf p.1).getD κ.dflt
def le(κ:KeyKind)(x y:Keyed):Prop:=κ.kle (kk κ x) (kk κ y)
theorem le_refl{κ:KeyKind}(x:Keyed):le κ x x:=KeyOrd.kle_refl _
theorem le_trans{κ:KeyKind}{x y z:Keyed}(a:le κ x y)(b:le κ y z):le κ x z:=KeyOrd.kle_trans a b
def AllK(κ:KeyKind)(xs:Array Keyed):Prop:=∀p∈xs.toList,κ.keyOf p.1=some (kk κ p)
abbrev Srt(κ:KeyKind)(xs:Array Keyed):Prop:=xs.toList.Pairwise (le κ)
theorem Srt.at{κ:KeyKind}{xs:Array Keyed}(h:Srt κ xs){i j:Nat}{p r:Keyed}(hij:i<=j)(e1:xs[i]?=some p)(e2:xs[j]?=some r):le κ p r:=by
 obtain⟨l1,rfl⟩:=Array.getElem?_eq_some_iff.mp e1;obtain⟨l2,rfl⟩:=Array.getElem?_eq_some_iff.mp e2
 by_cases c:i=j
 ·subst c;exact le_refl _
 ·have:=List.pairwise_iff_getElem.mp h i j (by simpa using l1) (by simpa using l2) (by omega);simpa using this
structure MI(κ:KeyKind)(a b out:Array Keyed)(ia ib:Nat):Prop where
 perm:out.toList.Perm (a.toList.take ia++b.toList.take ib)
 sort:out.toList.Pairwise (le κ)
 la:∀x∈out.toList,∀y∈a.toList.drop ia,le κ x y
 lb:∀x∈out.toList,∀y∈b.toList.drop ib,le κ x y
theorem zlk{α:Type}{xs:List α}{i:Nat}{p:α}(e:xs[i]?=some p):xs.drop i=p::xs.drop (i+1):=by
 obtain⟨l,rfl⟩:=List.getElem?_eq_some_iff.mp e;exact List.drop_eq_getElem_cons l
section
variable {κ:KeyKind}{a b out:Array Keyed}{ia ib:Nat}
theorem zvj{xs:Array Keyed}{i:Nat}{p:Keyed}(e:xs[i]?=some p):xs.toList[i]?=some p:=by simpa using e
theorem Srt.rest{xs:Array Keyed}(h:Srt κ xs){i:Nat}{p:Keyed}(e:xs[i]?=some p):∀y∈xs.toList.drop i,le κ p y:=by
 have h2:=h.drop (i:=i);rw[zlk (zvj e)]at h2 ⊢;intro y hy;rcases List.mem_cons.mp hy with rfl|hy
 ·exact le_refl _
 ·exact(List.pairwise_cons.mp h2).1 y hy
def Mg(κ:KeyKind)(a b r:Array Keyed):Prop:=r.toList.Perm (a.toList++b.toList)/\r.toList.Pairwise (le κ)
end
structure Gm(st st':SortSt):Prop where
 k:kindOf st'=kindOf st
 a:arrOf st'=arrOf st
 p:pendingOf st'=pendingOf st
 f:failedOf st'=failedOf st
theorem Gm.refl(st:SortSt):Gm st st:=⟨rfl,rfl,rfl,rfl⟩
theorem Gm.trans{x y z:SortSt}(h:Gm x y)(g:Gm y z):Gm x z:=⟨g.k.trans h.k,g.a.trans h.a,g.p.trans h.p,g.f.trans h.f⟩
section
variable {prog:Program}{w:World}{A:Around}{E:Value->Shared->Prop}{s:Shared}{κ:KeyKind}{kd:SortKind}
end
end SQ
namespace SQ
open PySem PyProof.Rows
set_option autoImplicit false
section
variable {prog:Program}{w:World}{A:Around}{E:Value->Shared->Prop}{s:Shared}{κ:KeyKind}{kd:SortKind}
theorem zfs{α:Type}{c:Prop}[Decidable c]{x y:StateT SortSt Sem α}{Q:α->SortSt->Prop}{st:SortSt}{M:Model}(h1:c->wpS M A E s x Q st)(h2:¬ c->wpS M A E s y Q st):wpS M A E s (if c then x else y) Q st:=by
 by_cases h:c
 ·rw[if_pos h];exact h1 h
 ·rw[if_neg h];exact h2 h
theorem st5{α β γ δ ε C:Type}{lo hi:Nat}{z:SortSt}{F:α->β->γ->δ->ε->C}{P:Nat->α->β->γ->δ->ε->Prop}{G:Nat->C->SortSt->Prop}(h:∀x,lo<=x->x<hi->∀a b c d e,P x a b c d e->G x (F a b c d e) z):∀x c z',lo<=x->x<hi->(z=z'/\∃a b i d e,c=F a b i d e/\P x a b i d e)->G x c z':=by
 intro x c z' h1 h2 e;obtain⟨rfl,a,b,i,d,e,rfl,p⟩:=e;exact h x h1 h2 a b i d e p
end
end SQ
namespace SQ
open PySem PyProof.Rows
set_option autoImplicit false
structure MH(κ:KeyKind)(a b out:Array Keyed)(na nb:Nat):Prop where
 perm:out.toList.reverse.Perm (a.toList.drop na++b.toList.drop nb)
 sort:out.toList.reverse.Pairwise (le κ)
 la:∀x∈a.toList.take na,∀y∈out.toList.reverse,le κ x y
 lb:∀x∈b.toList.take nb,∀y∈out.toList.reverse,le κ x y
section
variable {κ:KeyKind}{a b out:Array Keyed}{na nb:Nat}
theorem zap(xs:Array Keyed)(n:Nat):(xs.extract 0 n).toList=xs.toList.take n:=by
 rw[Array.toList_extract,List.extract_eq_take_drop,List.drop_zero,Nat.sub_zero]
theorem zpp{α:Type}{o x y u v:List α}(h:o.Perm (x++y)):(u++v++o).Perm ((u++x)++(v++y)):=by
 refine(List.Perm.append_left _ h).trans ?_;rw[List.append_assoc,List.append_assoc u x];refine List.Perm.append_left u ?_;rw[<-List.append_assoc,<-List.append_assoc];exact List.Perm.append_right y List.perm_append_comm
theorem MH.first(m:MH κ a b out na nb)(sa:Srt κ a)(sb:Srt κ b)(h:∀x∈b.toList.take nb,∀y∈a.toList,le κ x y):Mg κ a b (b.extract 0 nb++a.extract 0 na++out.reverse):=by
 refine⟨?_,?_⟩
 ·rw[Array.toList_append,Array.toList_append,zap,zap,Array.toList_reverse];have:=zpp (u:=b.toList.take nb) (v:=a.toList.take na) (m.perm.trans List.perm_append_comm);rw[List.take_append_drop,List.take_append_drop]at this;exact this.trans List.perm_append_comm
 ·rw[Array.toList_append,Array.toList_append,zap,zap,Array.toList_reverse];refine List.pairwise_append.mpr ⟨List.pairwise_append.mpr ⟨sb.take,sa.take,λx hx y hy=>h x hx y (List.mem_of_mem_take hy)⟩,m.sort,λx hx y hy=>?_⟩;rcases List.mem_append.mp hx with hx|hx
  ·exact m.lb x hx y hy
  ·exact m.la x hx y hy
end
section
variable {prog:Program}{w:World}{A:Around}{E:Value->Shared->Prop}{s:Shared}{κ:KeyKind}{kd:SortKind}
end
end SQ
namespace SQ
open PySem PyProof.Rows
set_option autoImplicit false
section
variable {prog:Program}{w:World}{A:Around}{E:Value->Shared->Prop}{s:Shared}{κ:KeyKind}{kd:SortKind}{a₀:Array Keyed}
theorem AllK.of{xs:Array Keyed}(h:∀p∈xs.toList,∃a,κ.keyOf p.1=some a):AllK κ xs:=λp hp=>by
 obtain⟨a,e⟩:=h p hp;unfold kk;rw[e];rfl
end
end SQ
namespace SQ
open PySem PyProof.Rows
set_option autoImplicit false
section
variable {prog:Program}{w:World}{A:Around}{E:Value->Shared->Prop}{s:Shared}{κ:KeyKind}{kd:SortKind}{a₀:Array Keyed}
end
end SQ
namespace SQ
open PySem PyProof.Rows
set_option autoImplicit false
def Cov(κ:KeyKind)(xs:Array Keyed):Nat->List (Nat×Nat×Nat)->Nat->Prop
 |at_,[],hi=>at_=hi
 |at_,(b,n,_)::r,hi=>b=at_/\1<=n/\Up κ xs at_ n/\Cov κ xs (at_+n) r hi
section
variable {κ:KeyKind}
theorem Cov.le{xs:Array Keyed}:∀{l:List (Nat×Nat×Nat)}{at_ hi:Nat},Cov κ xs at_ l hi->at_+l.length<=hi
 |[],at_,hi,h=>by have:at_=hi:=h;simp;omega
 |(b,n,p)::r,at_,hi,h=>by
  obtain⟨_,h1,_,h2⟩:=h;have:=h2.le;simp only[List.length_cons];omega
theorem Cov.push{xs:Array Keyed}{n pw:Nat}:∀{l:List (Nat×Nat×Nat)}{at_ hi:Nat},Cov κ xs at_ l hi->1<=n->Up κ xs hi n->Cov κ xs at_ (l ++ [(hi,n,pw)]) (hi+n)
 |[],at_,hi,h,hn,u=>by
  have e:at_=hi:=h;subst e;exact⟨rfl,hn,u,rfl⟩
 |(b,m,p)::r,at_,hi,h,hn,u=>⟨h.1,h.2.1,h.2.2.1,h.2.2.2.push hn u⟩
end
section
variable {prog:Program}{w:World}{A:Around}{E:Value->Shared->Prop}{s:Shared}{κ:KeyKind}{kd:SortKind}{a₀:Array Keyed}
end
end SQ
namespace SQ
open PySem PyProof.Rows
set_option autoImplicit false
section
variable {prog:Program}{w:World}{A:Around}{E:Value->Shared->Prop}{s:Shared}
theorem zll{Q:List Value->Shared->Prop}{l:Addr}{T:String}{o:Obj}{xs:Array Value}{n:Nat}(hT:T = "list" \/ T = "tuple")(ho:s.heap.get? l=some o)(hc:o.cls=.type T)(hd:o.data=.seq xs n)(hz:xs.size<=sizeLine)
  (q:Q xs.toList { s with heap:=(s.heap.push (seqObj "list" #[] 0)).update s.heap.objs.size (Obj.mapSeq (·++xs)) }):wpAny (model prog w) A (collect (.ref l)) Q E s:=by
 unfold collect;refine wpAny_bind (wpAny_runValue (codeAny_builtin PySem.F.entry_proto_collect ?_));rw[Around.under_plainId PySem.F.plain_proto_collect _];show wpAny _ A.in1 (newList [] >>= λz=>again (.builtin "list.__iadd__" ⟨[z,.ref l],[]⟩)) _ _ s;refine wpAny_bind (wpAny_newObj_type ?_);refine wpAny_pure ⟨plainId_quiet PySem.F.plain_list_iadd _,codeAny_builtin PySem.F.entry_list_iadd ?_⟩;rw[Around.under_plainId PySem.F.plain_list_iadd _];show wpAny _ A.in1 (Builtin.List.listExtendWith (.ref s.heap.objs.size) (.ref l) (.ref s.heap.objs.size)) _ _ _;have g1:(s.heap.push { cls:=.type "list",data:=.seq ([]:List Value).toArray }).get? s.heap.objs.size=some { cls:=.type "list",data:=.seq #[] 0 }:=Heap.get?_push_size _ rfl;have g2:=Heap.get?_update_self (Obj.mapSeq (·++xs)) g1 rfl;have fin:wpAny (model prog w) A (match Value.ref s.heap.objs.size with
   |Value.ref z=>do
    match (<-load z).data with
     |Data.seq ys _=>pure ys.toList
     |_=>unsupported "internal:collect"
   |_=>unsupported "internal:collect") Q E { s with heap:=(s.heap.push { cls:=.type "list",data:=.seq ([]:List Value).toArray }).update s.heap.objs.size (Obj.mapSeq (·++xs)) }:=by
  show wpAny _ A (load s.heap.objs.size >>= _) _ _ _;refine wpAny_bind (wpAny_load g2 (wpAny_pure ?_));show Q ((#[]:Array Value)++xs).toList _;rw[show((#[]:Array Value)++xs).toList=xs.toList by simp];exact q
 refine wpAny_mono (wpAny_extend_seq (hsz:=hz) (A:=A) (R:=λr s'=>r=.ok (.ret (.ref s.heap.objs.size))/\s' = { s with heap:=(s.heap.push { cls:=.type "list",data:=.seq ([]:List Value).toArray }).update s.heap.objs.size (Obj.mapSeq (·++xs)) })
  (s:={ s with heap:=s.heap.push { cls:=.type "list",data:=.seq ([]:List Value).toArray } }) _ l _ 0 hT g1 (Heap.get?_push_of_some _ ho) hc hd ⟨rfl,rfl⟩) (λf s' z=>?_) (λe s' z=>absurd z.1 (by simp))
 cases f with
 |done f=>
  obtain⟨e,rfl⟩:=z
  cases e;exact fin
 |again c'=>exact⟨z.1,codeAny_mono z.2 λr s2 y=>by obtain⟨rfl,rfl⟩:=y;exact fin⟩
theorem zpq(A:Around):A.in1.in1.units<=A.units+8:=by show A.units+1+1<=_;omega
end
end SQ
namespace SQ
open PySem PyProof.Rows
set_option autoImplicit false
@[reducible] def intK:KeyKind where
 α:=Int
 blt a b:=decide (a<b)
 irrefl a:=by simp
 trans a b c h1 h2:=by simp only[decide_eq_true_eq]at *;omega
 negTrans a b c h:=by simp only[decide_eq_true_eq]at *;omega
 total a b h1 h2:=by simp only[decide_eq_false_iff_not]at *;omega
 keyOf v:=match v with|.int i _=>some i|_=>none
 dflt:=0
theorem zkc{prog:Program}{w:World}{A:Around}{s:Shared}:zao prog w A s intK oneType':=λE x y a b Q ha hb q=>by
 cases x <;> simp only[intK,reduceCtorEq,Option.some.injEq]at ha
 cases y <;> simp only[intK,reduceCtorEq,Option.some.injEq]at hb
 cases ha;cases hb;rw[keyLt'_oneType];exact oneLt_int q
def RefIs(h:Heap)(v:Value)(is:List Int):Prop:=∃a its,v=.ref a/\IsTup h a its/\IntsAre its.toList is
theorem IntsAre.same{vs:List Value}{ns ms:List Int}(h:IntsAre vs ns)(h':IntsAre vs ms):ns=ms:=by rw[<-h.nums,<-h'.nums]
theorem RefIs.uniq{h:Heap}{v:Value}{is js:List Int}(x:RefIs h v is)(y:RefIs h v js):is=js:=by
 obtain⟨a,its,rfl,⟨o,e,_,n,d⟩,i1⟩:=x;obtain⟨a',its',e',⟨o',e2,_,n',d'⟩,i2⟩:=y
 cases e';rw[e]at e2
 cases e2;rw[d]at d'
 cases d';exact IntsAre.same i1 i2
theorem RefIs.keep{h h':Heap}{v:Value}{is:List Int}(k:∀b o,h.get? b=some o->h'.get? b=some o)(x:RefIs h v is):RefIs h' v is:=by
 obtain⟨a,its,e,t,i⟩:=x;exact⟨a,its,e,t.keeps k,i⟩
open Classical in
noncomputable def zbl (h:Heap) (v:Value):Option (List Int):=if x:∃is,RefIs h v is then some x.choose else none
theorem zby{h:Heap}{v:Value}{is:List Int}(e:zbl h v=some is):RefIs h v is:=by
 unfold zbl at e
 split at e
 ·next x=>cases e;exact x.choose_spec
 ·cases e
theorem zeu{h:Heap}{v:Value}{is:List Int}(x:RefIs h v is):zbl h v=some is:=by
 unfold zbl;rw[dif_pos ⟨is,x⟩];rw[(Exists.choose_spec (p:=λis=>RefIs h v is) ⟨is,x⟩).uniq x]
@[reducible] noncomputable def ziu (h:Heap):KeyKind where
 α:=List Int
 blt a b:=decide (a<b)
 irrefl a:=by simpa using List.lt_irrefl a
 trans a b c h1 h2:=by simp only[decide_eq_true_eq]at *;exact List.lt_trans h1 h2
 negTrans a b c h:=by
  simp only[decide_eq_true_eq]at *
  by_cases c:a<b
  ·exact .inl c
  ·exact .inr (List.lt_of_le_of_lt (List.not_lt.mp c) h)
 total a b h1 h2:=by simp only[decide_eq_false_iff_not]at *;exact List.le_antisymm (List.not_lt.mp h2) (List.not_lt.mp h1)
 keyOf v:=zbl h v
 dflt:=[]
section
variable {prog:Program}{w:World}{A:Around}{E:Value->Shared->Prop}{s:Shared}
theorem zc7{a b:Int}{t u:Tok}{f:Bool}{Q:Bool->Shared->Prop}(h:Q (decide (a<b)) s):wpAny (model prog w) A (oneLt' f (.int a t) (.int b u)) Q E s:=by
 cases f with
 |true=>exact oneLt_int h
 |false=>
  rw[oneLt'_eq];rw[if_neg (by decide)];have:=CmpOf.ints_lt (prog:=prog) (w:=w) (A:=A) (P:=λi v=>(i=0/\v=.int a t)\/(i=1/\v=.int b u)) (λi=>if i=0 then a else b) (λi v hv=>by
   rcases hv with⟨rfl,rfl⟩ |⟨rfl,rfl⟩
   ·exact⟨t,rfl⟩
   ·exact⟨u,rfl⟩)
  exact wpAny_bind (this 0 1 _ _ s _ E (.inl ⟨rfl,rfl⟩) (.inr ⟨rfl,rfl⟩) (wpAny_truthy_bool h))
theorem zkd{f:Bool}:∀{xs ys:List Value}{as bs:List Int} (k:Nat) (Q:Option Bool×Unit->Shared->Prop),IntsAre xs as->IntsAre ys bs->(∀r,(r=none->as.take bs.length=bs.take as.length)->(∀b,r=some b->b=decide (as<bs))->Q (r,()) s) ->
  wpAny (model prog w) A (forIn ((xs.zip ys).zipIdx k) ((none,()):Option Bool×Unit) λx _=>match x with
   |((p,q),i)=>do
    let e <-eqBool p q
    if (!e)=true then do
     let r <-oneLt' (f && i == 0) p q
     pure (ForInStep.done (some r,()))
    else pure (ForInStep.yield (none,()))) Q E s
 |_,_,_,_,k,Q,.nil,h2,q=>by
  simp only[List.zip_nil_left,List.zipIdx_nil,List.forIn_nil];exact wpAny_pure (q none (λ_=>by simp) (λb e=>by cases e))
 |_,_,_,_,k,Q,.cons a t h1,.nil,q=>by
  simp only[List.zip_nil_right,List.zipIdx_nil,List.forIn_nil];exact wpAny_pure (q none (λ_=>by simp) (λb e=>by cases e))
 |_,_,_,_,k,Q,.cons (ns:=as) a t h1,.cons (ns:=bs) b u h2,q=>by
  simp only[List.zip_cons_cons,List.zipIdx_cons,List.forIn_cons];refine wpAny_bind ?_;refine wpAny_bind (wpAny_eqBool_int ?_)
  by_cases c:a=b
  ·subst c;rw[if_neg (by simp)];refine wpAny_pure (zkd (k+1) Q h1 h2 λr r1 r2=>q r (λe=>?_) λd e=>?_)
   ·simp only[List.length_cons,List.take_succ_cons];rw[r1 e]
   ·rw[r2 d e];exact decide_eq_decide.mpr (by rw[List.cons_lt_cons_iff];simp)
  ·rw[if_pos (by simpa using c)];refine wpAny_bind (zc7 (wpAny_pure (wpAny_pure (q _ (λe=>by cases e) λd e=>?_))))
   cases e;exact decide_eq_decide.mpr (by rw[List.cons_lt_cons_iff];simp[c])
theorem zev:∀{as bs:List Int},as.take bs.length=bs.take as.length->decide (as<bs)=decide (as.length<bs.length)
 |[],[],_=>by simp
 |[],b::bs,_=>by simp
 |a::as,[],_=>by simp
 |a::as,b::bs,h=>by
  simp only[List.length_cons,List.take_succ_cons,List.cons.injEq]at h;obtain⟨rfl,h⟩:=h;have:=zev h;rw[decide_eq_decide]at this ⊢;rw[List.cons_lt_cons_iff];simp only[Int.lt_irrefl,false_or,true_and,List.length_cons,this];omega
theorem zpr{h₀:Heap}{f:Bool}(k:∀b o,h₀.get? b=some o->s.heap.get? b=some o):zao prog w A s (ziu h₀) (tuples' f):=λE x y a b Q ha hb q=>by
 obtain⟨ra,ia,rfl,⟨oa,ga,_,na,da⟩,ta⟩:=(zby ha).keep k;obtain⟨rb,ib,rfl,⟨ob,gb,_,nb,db⟩,tb⟩:=(zby hb).keep k;refine wpAny_bind (listItems_at ga da (wpAny_bind (listItems_at gb db (wpAny_bind (zkd 0 _ ta tb λr r1 r2=>?_)))))
 cases r with
 |some d=>
  dsimp only
  cases r2 d rfl;exact wpAny_pure q
 |none=>
  dsimp only;refine wpAny_pure ?_;have:=zev (r1 rfl);rw[<-ta.length,<-tb.length]at this;rw[show decide (ia.size<ib.size)=(ziu h₀).blt a b from ?_]
  ·exact q
  ·show _=decide (a<b);rw[this];simp
end
end SQ
namespace SQ
open PySem PyProof.Rows
set_option autoImplicit false
inductive All2{α β:Type}(R:α->β->Prop):List α->List β->Prop
 |nil:All2 R [] []
 |cons {a:α}{b:β}{as:List α}{bs:List β} (h:R a b) (t:All2 R as bs):All2 R (a::as) (b::bs)
theorem All2.len{α β:Type}{R:α->β->Prop}{as:List α}{bs:List β}(h:All2 R as bs):as.length=bs.length:=by
 induction h with
 |nil=>rfl
 |cons _ _ ih=>simp[ih]
theorem All2.imp{α β:Type}{R S:α->β->Prop}(f:∀a b,R a b->S a b){as:List α}{bs:List β}(h:All2 R as bs):All2 S as bs:=by
 induction h with
 |nil=>exact .nil
 |cons h _ ih=>exact .cons (f _ _ h) ih
theorem All2.mem{α β:Type}{R:α->β->Prop}{as:List α}{bs:List β}(h:All2 R as bs){a:α}(ha:a∈as):∃b∈bs,R a b:=by
 induction h with
 |nil=>cases ha
 |cons h _ ih=>
  rcases List.mem_cons.mp ha with rfl|ha
  ·exact⟨_,List.mem_cons_self,h⟩
  ·obtain⟨b,hb,r⟩:=ih ha;exact⟨b,List.mem_cons_of_mem _ hb,r⟩
section
variable {prog:Program}{w:World}{A:Around}{E:Value->Shared->Prop}{s:Shared}
theorem zlm{v:Value}{i:Int}{is:List Int}(h:RefIs s.heap v (i::is)):∃t,∀Q:Option Value->Shared->Prop,Q (some (.int i t)) s->wpAny (model prog w) A (firstOfTuple' v) Q E s:=by
 obtain⟨a,its,rfl,⟨o,g,c,n,d⟩,ii⟩:=h;obtain⟨t,rest,e⟩:∃t rest,its.toList=.int i t::rest:=by
  cases e:its.toList with
  |nil=>rw[e]at ii;cases ii
  |cons x r=>
   rw[e]at ii
   cases ii with
   |cons n t h=>exact⟨t,r,rfl⟩
 refine⟨t,λQ q=>wpAny_bind (wpAny_typeOf (T := "tuple") ⟨o,g,c⟩ ?_)⟩;rw[if_neg (by decide)];refine wpAny_bind (listItems_at g d (wpAny_pure ?_));have:its[0]?=some (.int i t):=by rw[<-Array.getElem?_toList,e];rfl
 rw[this];exact q
theorem zew:∀{vs:List Value}{tss:List (List Int)},All2 (RefIs s.heap) vs tss->(∀t∈tss,t ≠ [])->∃(fs:List Value) (ns:List Int),IntsAre fs ns/\fs.length=vs.length/\∀Q:List (Option Value)->Shared->Prop,Q (fs.map some) s->wpAny (model prog w) A (vs.mapM firstOfTuple') Q E s
 |_,_,.nil,_=>⟨[],[],.nil,rfl,λQ q=>by rw[List.mapM_nil];exact wpAny_pure q⟩
 |_,_,.cons (b:=t) h r,hne=>by
  obtain⟨fs,ns,i1,l1,w1⟩:=zew r λx hx=>hne x (List.mem_cons_of_mem _ hx)
  cases t with
  |nil=>exact absurd rfl (hne [] List.mem_cons_self)
  |cons i is=>
   obtain⟨t,w2⟩:=zlm (prog:=prog) (w:=w) (A:=A) (E:=E) h;refine⟨.int i t::fs,i::ns,.cons i t i1,by simp[l1],λQ q=>?_⟩;rw[List.mapM_cons];exact wpAny_bind (w2 _ (wpAny_bind (w1 _ (wpAny_pure q))))
theorem zln{vs:List Value}{tss:List (List Int)}{Q:SortKind->Shared->Prop}(h:All2 (RefIs s.heap) vs tss)(hne:∀t∈tss,t ≠ [])(h2:2<=vs.length)(q:Q (tuples' true) s):wpAny (model prog w) A (keyKind' vs.toArray) Q E s:=by
 obtain⟨fs,ns,i1,l1,w1⟩:=zew (prog:=prog) (w:=w) (A:=A) (E:=E) h hne;rw[keyKind'_eq,List.mapM_toArray];simp only[map_eq_pure_bind,bind_assoc,pure_bind];refine wpAny_bind (w1 _ ?_);rw[if_pos (by simp)];refine wpAny_bind (m:=rule _) (wpAny_rule ?_);have ef:Array.filterMap id (List.map some fs).toArray=fs.toArray:=by simp
 rw[ef,oneTypeOnly'_eq,List.mapM_toArray,mapM_typeOf_ints i1];simp only[map_pure,pure_bind]
 cases fs with
 |nil=>simp at l1;omega
 |cons f fs=>
  have hall:((List.map (λ_=>Value.type "int") (f::fs)).toArray.all λx=>x == Value.type "int")=true:=by
   simp only[List.all_toArray,List.all_map,List.all_eq_true];intro _ _;rfl
  have g0:(List.map (λ_=>Value.type "int") (f::fs)).toArray[0]?=some (Value.type "int"):=by simp
  rw[g0];simp only[hall,if_true,pure_bind];exact wpAny_pure q
theorem vn{κ:KeyKind}{vs:List Value}(h:∀v∈vs,∃a,κ.keyOf v=some a):KeysOf κ (pairsOf vs):=λp hp=>by
 rw[pairsOf_toList]at hp;exact h _ (mem_zip_self hp).2
theorem jp{κ:KeyKind}{vs:List Value}{out:Array Keyed}(p:out.Perm (pairsOf vs))(so:SortedToK κ out (pairsOf vs).size)(hk:∀v∈vs,∃a,κ.keyOf v=some a):
  (out.map (·.2)).toList.Perm vs/\∃ks:List κ.α,All2 (λv k=>κ.keyOf v=some k) (out.map (·.2)).toList ks/\ks.Pairwise κ.kle:=by
 have pl:=Array.perm_iff_toList_perm.mp p;rw[pairsOf_toList]at pl;have diag:∀x∈out.toList,x.1=x.2/\x.1∈vs:=λx hx=>mem_zip_self (pl.mem_iff.mp hx);refine⟨?_,out.toList.map λx=>(κ.keyOf x.1).getD κ.dflt,?_,?_⟩
 ·rw[Array.toList_map];have:=pl.map (·.2)
  rwa [show(vs.zip vs).map (·.2)=vs by rw[List.map_snd_zip (Nat.le_refl _)]]at this
 ·rw[Array.toList_map];clear so p pl;generalize out.toList=l at diag
  induction l with
  |nil=>exact .nil
  |cons x l ih=>
   refine .cons ?_ (ih λy hy=>diag y (List.mem_cons_of_mem _ hy));obtain⟨e,m⟩:=diag x List.mem_cons_self;obtain⟨a,ea⟩:=hk _ m;show κ.keyOf x.2=some ((κ.keyOf x.1).getD κ.dflt);rw[<-e,ea];rfl
 ·rw[List.pairwise_map,List.pairwise_iff_getElem];intro i j h1 h2 hij;have h1':i<out.size:=by simpa using h1
  have h2':j<out.size:=by simpa using h2
  have:=so i j (Nat.le_of_lt hij) (by rw[<-p.size_eq];exact h2');unfold KK at this;rw[Array.getElem?_eq_getElem h1',Array.getElem?_eq_getElem h2']at this;simpa using this
end
end SQ
namespace L2
open PySem PySem.Spec PyProof.Rows SQ
def zke(ns:List Int):List Int:=ns.mergeSort (λa b=>decide (a<=b))
def zc8(tss:List (List Int)):List (List Int):=tss.mergeSort (λa b=>!decide (b<a))
def tD(is:List Int):D:=.tuple (is.map PyData.int)
theorem ziv(ns:List Int):(zke ns).Perm ns:=List.mergeSort_perm _ _
theorem znk(ns:List Int):(zke ns).Pairwise (· <= ·):=by
 have:=List.pairwise_mergeSort (le:=λa b:Int=>decide (a<=b)) (λa b c h1 h2=>by simp at *;omega) (λa b=>by simp;omega) ns;exact this.imp λh=>by simpa using h
theorem ziw{ms ns:List Int}(p:ms.Perm ns)(h:ms.Pairwise (· <= ·)):ms=zke ns:=(p.trans (ziv ns).symm).eq_of_pairwise (λa b _ _ h3 h4=>Int.le_antisymm h3 h4) h (znk ns)
theorem zac(tss:List (List Int)):(zc8 tss).Perm tss:=List.mergeSort_perm _ _
theorem zlo{a b c:List Int}(h1:¬ b<a)(h2:¬ c<b):¬ c<a:=λh=>h1 (List.lt_of_le_of_lt (List.not_lt.mp h2) h)
theorem zg8(tss:List (List Int)):(zc8 tss).Pairwise λa b=>¬ b<a:=by
 have:=List.pairwise_mergeSort (le:=λa b:List Int=>!decide (b<a)) (λa b c h1 h2=>by
  simp only[Bool.not_eq_true',decide_eq_false_iff_not]at *;exact zlo h1 h2) (λa b=>by
  simp only[Bool.or_eq_true,Bool.not_eq_true',decide_eq_false_iff_not]
  by_cases c:b<a
  ·exact .inr λz=>List.lt_irrefl _ (List.lt_trans z c)
  ·exact .inl c) tss
 exact this.imp λh=>by simpa using h
theorem zix{ss tss:List (List Int)}(p:ss.Perm tss)(h:ss.Pairwise λa b=>¬ b<a):ss=zc8 tss:=(p.trans (zac tss).symm).eq_of_pairwise (λa b _ _ h3 h4=>List.le_antisymm (List.not_lt.mp h3) (List.not_lt.mp h4)) h (zg8 tss)
def ziy(xs:List D)(Q:List D->Prop):Prop:=(∃ns:List Int,xs=ns.map PyData.int/\Q ((zke ns).map PyData.int))\/∃tss:List (List Int),xs=tss.map tD/\(∀t∈tss,t ≠ [])/\Q ((zc8 tss).map tD)
theorem zbm{K:PySem.W.Frag}{H:Hp}{us us':List Value}(p:us'.Perm us):∀{vs:List V}{ds:List D},Vals vs us->Reps K H ds vs->∃vs' ds',Vals vs' us'/\Reps K H ds' vs'/\ds'.Perm ds:=by
 induction p with
 |nil=>intro vs ds r rp;exact⟨vs,ds,r,rp,.refl _⟩
 |cons u p ih=>
  intro vs ds r rp
  cases r with
  |cons r1 r2=>
   cases rp with
   |cons q1 q2=>
    obtain⟨vs',ds',a1,a2,a3⟩:=ih r2 q2;exact⟨_,_,.cons r1 a1,.cons q1 a2,a3.cons _⟩
 |swap u v l=>
  intro vs ds r rp
  cases r with
  |cons r1 r2=>
   cases r2 with
   |cons r3 r4=>
    cases rp with
    |cons q1 q2=>
     cases q2 with
     |cons q3 q4=>exact⟨_,_,.cons r3 (.cons r1 r4),.cons q3 (.cons q1 q4),.swap _ _ _⟩
 |trans p1 p2 ih1 ih2=>
  intro vs ds r rp;obtain⟨vs1,ds1,a1,a2,a3⟩:=ih2 r rp;obtain⟨vs2,ds2,b1,b2,b3⟩:=ih1 a1 a2;exact⟨vs2,ds2,b1,b2,b3.trans a3⟩
section
variable {X:Cx}
theorem zft{pins:List (Addr×Obj)}{σ:St}{H:Hp}{s:Shared}(I:Inv X pins σ H s):∀{tss:List (List Int)}{vs:List V}{us:List Value},Reps X.K H (tss.map tD) vs->Vals vs us->All2 (RefIs s.heap) us tss
 |[],_,_,.nil,.nil=>.nil
 |t::tss,_,_,.cons r rs,.cons q qs=>by
  refine .cons ?_ (zft I rs qs)
  cases r with
  |tup h r=>
   cases q;have:=Reps.of_ints r;subst this;obtain⟨its,rv,ht,_⟩:=I.tuple h;exact⟨_,its.toArray,rfl,ht,by simpa using wx rv⟩
theorem zc9{α:Type}{f:α->D}(g:D->α)(hg:∀a,g (f a)=a){ds:List D}{as:List α}(p:ds.Perm (as.map f)):∃bs:List α,ds=bs.map f/\bs.Perm as:=by
 have:∀d∈ds,∃a,d=f a/\True:=λd hd=>by
  obtain⟨a,_,e⟩:=List.mem_map.mp (p.mem_iff.mp hd);exact⟨a,e.symm,trivial⟩
 obtain⟨bs,e,_⟩:=zj8 this;subst e;refine⟨bs,rfl,?_⟩;have z:∀l:List α,(l.map f).map g=l:=λl=>by rw[List.map_map];exact(List.map_congr_left λa _=>hg a).trans (List.map_id _)
 have:=p.map g
 rwa [z,z]at this
def deI:D->Int
 |.int i=>i
 |_=>0
def deT:D->List Int
 |.tuple xs=>xs.map deI
 |_=>[]
theorem zps(i:Int):deI (.int i)=i:=rfl
theorem ztk(is:List Int):deT (tD is)=is:=by
 show(is.map PyData.int).map deI=is;rw[List.map_map];exact(List.map_congr_left λa _=>rfl).trans (List.map_id _)
end
end L2
namespace L2
open PySem PySem.Spec PyProof.Rows
namespace RV
theorem zws:Manifest.owners.lookup (String.ofList ['d','e','s','r','e','v','e','r'].reverse)=some Manifest.sig_reversed:=by kernel_rfl
theorem sNext:Slot "reversed" "__next__" "reversed.__next__" := .of (owner := "reversed") (n := "__next__") (by rw[typeLookup_type,builtinLookup_eq_fast];kernel_rfl) (by decide +kernel) (by decide +kernel) (by decide +kernel) (by first|exact .inl (by decide +kernel)|exact .inr (by decide +kernel)) (by rw[isSubtype_type];kernel_rfl)
theorem zrc:Slot "reversed" "__iter__" "reversed.__iter__" := .of (owner := "reversed") (n := "__iter__") (by rw[typeLookup_type,builtinLookup_eq_fast];kernel_rfl) (by decide +kernel) (by decide +kernel) (by decide +kernel) (by first|exact .inl (by decide +kernel)|exact .inr (by decide +kernel)) (by rw[isSubtype_type];kernel_rfl)
theorem zvk(a:Value):argsOk "reversed.__iter__" ⟨[a],[]⟩:=by
 unfold argsOk;rw[signature?_of (id := "reversed.__iter__") (n:=['_','_','r','e','t','i','_','_']) (o:=['d','e','s','r','e','v','e','r']) (by kernel_rfl) zws];kernel_rfl
theorem zvl:entryFor table "reversed.__iter__" = some Builtin.«dict_keyiterator.__iter__»:=entryFor_alias (id' := "dict_keyiterator.__iter__") (by kernel_rfl) (by first|rfl|decide +kernel |(unfold String.splitOn;simp +decide [String.splitOnAux])) (by decide +kernel) (by kernel_rfl)
end RV
namespace RV
def ob(l:Addr)(i:Int):Obj:={ cls:=.type "reversed",data:=.fields #[.ref l,rawInt i] }
def Is(h:Heap)(a l:Addr)(i:Int):Prop:=∃o,h.get? a=some o/\o.cls=.type "reversed" /\ o.data=.fields #[.ref l,rawInt i]
theorem Is.typeIs{s:Shared}{a l:Addr}{i:Int}(x:Is s.heap a l i):s.TypeIs (.ref a) "reversed" := let ⟨o,ho,hc,_⟩:=x;⟨o,ho,hc⟩
theorem Is.at{h h':Heap}{a l:Addr}{i:Int}(x:Is h a l i)(e:∀o,h.get? a=some o->h'.get? a=some o):Is h' a l i:=let ⟨o,ho,r⟩:=x;⟨o,e _ ho,r⟩
section
variable {prog:Program}{w:World}{A:Around}{E:Value->Shared->Prop}{s:Shared}
theorem iter{it l:Addr}{i:Int}{Q:Value->Shared->Prop}(hit:Is s.heap it l i)(h:Q (.ref it) s):wpAny (model prog w) A (pyIter (.ref it)) Q E s:=by
 refine wpAny_pyIter_slot hit.typeIs zrc (wpAny_call_entry zrc hit.typeIs zvl ?_ (zvk _));show wpAny _ _ (ret (.ref it)) _ _ s;exact wpAny_pure ⟨_,rfl, "reversed",_,hit.typeIs,sNext.lookup,h⟩
end
end RV
section
variable {X:Cx}{tg a:Expr}{t:DTF}{p pos:Pos}
end
section
variable {X:Cx}{a:Expr}{p pos p2 pos2:Pos}
end
def zwt(TI TO:Addr)(old fl:Value):Obj:={ cls:=.type "zip",dict:=none,data:=.fields #[old,fl,.bool false,.ref TI,.ref TO],slots:=#[] }
def IsZ(h:Heap)(z TI TO:Addr)(old fl:Value):Prop:=h.get? z=some (zwt TI TO old fl)
def zwu(old:Value):Prop:=old=.none\/∃p:Addr,old=rawInt p
section
variable {prog:Program}{w:World}{A:Around}{E:Value->Shared->Prop}{s:Shared}
end
def ZSt(b1 b2:Bool)(z TI TO i1 i2 l1 l2:Addr)(k:Nat)(h:Heap):Prop:=∃old fl a b,IsZ h z TI TO old fl/\zwu old/\IsPair h TI (.ref i1) (.ref i2)/\IsPair h TO a b/\zIt b1 h i1 l1 k/\zIt b2 h i2 l2 k
theorem ZSt.keep{b1 b2:Bool}{z TI TO i1 i2 l1 l2:Addr}{k:Nat}{h h':Heap}(st:ZSt b1 b2 z TI TO i1 i2 l1 l2 k h)(kp:∀b ∈ [z,TI,TO,i1,i2],∀o,h.get? b=some o->h'.get? b=some o):ZSt b1 b2 z TI TO i1 i2 l1 l2 k h':=by
 obtain⟨old,fl,a,b,hz,ho,hI,hO,h1,h2⟩:=st;exact⟨old,fl,a,b,kp _ (by simp) _ hz,ho,kp _ (by simp) _ hI,kp _ (by simp) _ hO,h1.at λo e=>kp i1 (by simp) o e,h2.at λo e=>kp i2 (by simp) o e⟩
section
variable {prog:Program}{w:World}{A:Around}{E:Value->Shared->Prop}{s:Shared}
end
section
variable {prog:Program}{w:World}{A:Around}{E:Value->Shared->Prop}{s:Shared}
end
section
variable {X:Cx}{a b:Expr}{p pos p2 pos2:Pos}{elts:List Expr}{tpos:Pos}
end
section
variable {X:Cx}
variable {o e:Expr}{to te:DTE}{apos cpos:Pos}
end
section
variable {X:Cx}{e:Expr}{tf:DTF}{pos:Pos}
end
section
variable (P:Program)(w:World)
end
section
variable {P:Program}{w:World}{H H':Hp}{h h':Heap}{a:Addr}{o:HO}
end
section
variable {P:Program}{w:World}{H:Hp}{h h':Heap}{x e:Addr}{o':HO}
end
section
variable {fs fs' ex ex':List Addr}{H H1 H2:Hp}{h h1 h2 h':Heap}{a x e:Addr}{o:HO}
end
section
variable {X:Cx}{pins:List (Addr×Obj)}{σ:List (Option V)}{H H':Hp}{s:Shared}{h':Heap}
end
section
variable {X:Cx}
variable {a b:Expr}{ta tb:TE}{pos:Pos}
variable {tA tB':TT}{rest:List Expr}
end
section
variable {X:Cx}{pins:List (Addr×Obj)}{σ:St}{H:Hp}{s:Shared}{a:Addr}{xs ys:List V}
end
section
variable {X:Cx}{pins:List (Addr×Obj)}{σ:St}{H:Hp}{s:Shared}{E:Value->Shared->Prop}
end
section
variable {X:Cx}{st:Stmt}{rest:List Stmt}{t u:TS}{e:Expr}{te:TE}{pos:Pos}
end
section
variable {X:Cx}{pos:Pos}
end
section
variable {X:Cx}{pos:Pos}
end
section
variable {X:Cx}{tg:Expr}
end
section
variable {X:Cx}{a b c:Expr}{ta tb tc:TE}{pos:Pos}
end
section
variable {X:Cx}{a b c:Expr}{ta tb tc:TE}{pos:Pos}
end
section
variable {prog:Program}{w:World}{A:Around}{E:Value->Shared->Prop}{s:Shared}{K:PySem.W.Frag}{x dx C f:Addr}{mA:Str->Option Value}{name:Str}{v:Value}
end
section
variable {P:Program}{w:World}{H H':Hp}{h h':Heap}{a C dx:Addr}{fs fs':List (Str×V)}
end
section
variable {X:Cx}{pins:List (Addr×Obj)}{σ:St}{H:Hp}{s:Shared}{a C dx:Addr}{fs:List (Str×V)}{f:Str}{v:V}{A:Around}{E:Value->Shared->Prop}
end
section
variable {X:Cx}{o e value:Expr}{f:Str}{pos pos' tpos:Pos}{ta tv:TE}
end
section
variable {X:Cx}{pins:List (Addr×Obj)}{σ:St}{H:Hp}{s:Shared}{A:Around}{E:Value->Shared->Prop}{Q:Value->Shared->Prop}{c:Value}{b:Bool}
end
section
variable {X:Cx}{e:Expr}{es:List Expr}{te:TE}{t:TA}{pos:Pos}
end
section
variable {X:Cx}{pins:List (Addr×Obj)}{σ:St}{H:Hp}{s s':Shared}
end
section
variable {X:Cx}{CX:CXT}{k:Nat}{f C:Addr}{fd:FuncData}{ps:List Str}{sp:Sp}{dvs:List V}{ds:List Value}{E:XK}{x m:Str}{p pos apos:Pos}{e o:Expr}{es:List Expr}{ta:TE}{t:TA}
end
section
variable {X:Cx}{CX:CXT}{k:Nat}{f C:Addr}{fd:FuncData}{ps ks:List Str}{sp:Sp}{E:XK}{x m:Str}{p pos apos kpos:Pos}{e o:Expr}{es:List Expr}{kws:List Keyword}{te ta:TE}{t tk:TA}{nm:Option Str}
variable {g:List Value->List Value->List Value}{gV:List V->List V->List V}
end
section
variable {X:Cx}{x:Str}{p pos:Pos}{e:Expr}{es:List Expr}{t:TA}{id T:String}{r:List V->Hp->VK->Prop}
end
section
variable {κ:Type}[DecidableEq κ]
def zda(kvs:List (κ×V))(k:κ):Option V:=(kvs.find? λkv=>decide (kv.1=k)).map (·.2)
def zpt(kvs:List (κ×V))(k:κ)(v:V):List (κ×V) :=
 if (kvs.any λkv=>decide (kv.1=k))=true then kvs.map (λkv=>if kv.1=k then (kv.1,v) else kv) else kvs ++ [(k,v)]
def zrd(kvs:List (κ×V))(k:κ):List (κ×V):=kvs.filter λkv=>decide (kv.1≠k)
theorem zg9{p:κ×V}{r:List (κ×V)}{k:κ}(e:p.1=k):zda (p::r) k=some p.2:=by simp[zda,List.find?_cons,e]
theorem zha{p:κ×V}{r:List (κ×V)}{k:κ}(e:¬ p.1=k):zda (p::r) k=zda r k:=by simp[zda,List.find?_cons,e]
theorem RelO.getD{o:Option V}{u:Option Value}{d:V}{d':Value}(r:RelO o u)(rd:RelV d d'):RelV (o.getD d) (u.getD d'):=by
 cases o with
 |none=>cases u with
  |none=>exact rd
  |some _=>exact(show False from r).elim
 |some _=>cases u with
  |none=>exact(show False from r).elim
  |some _=>exact r
theorem KV.val{kvs:List (κ×V)}{vs:List (κ×Value)}(r:KV kvs vs)(k:κ):RelO (zda kvs k) (valueAt vs k):=by
 unfold KV at r
 induction r with
 |nil=>exact True.intro
 |@cons p q ps qs h t ih=>
  obtain⟨h1,h2⟩:=h
  by_cases e:p.1=k
  ·have e':q.1=k:=h1.symm.trans e;have b:valueAt (q::qs) k=some q.2:=by simp[valueAt,List.find?_cons,e']
   rw[zg9 e,b];exact h2
  ·have e':¬ q.1=k:=λz=>e (h1.trans z);have b:valueAt (q::qs) k=valueAt qs k:=by simp[valueAt,List.find?_cons,e']
   rw[zha e,b];exact ih
theorem KV.any{kvs:List (κ×V)}{vs:List (κ×Value)}(r:KV kvs vs)(k:κ):(kvs.any λkv=>decide (kv.1=k))=vs.any λkv=>decide (kv.1=k):=by
 unfold KV at r
 induction r with
 |nil=>rfl
 |cons h t ih=>rw[List.any_cons,List.any_cons,ih,h.1]
theorem KV.drop{kvs:List (κ×V)}{vs:List (κ×Value)}(r:KV kvs vs)(k:κ):KV (zrd kvs k) (without vs k):=by
 unfold KV at r ⊢;unfold zrd without
 induction r with
 |nil=>exact .nil
 |@cons p q ps qs h t ih=>
  obtain⟨h1,h2⟩:=h;rw[List.filter_cons,List.filter_cons]
  by_cases e:p.1=k
  ·have a:¬ decide (p.1≠k)=true:=by simp[e]
   have b:¬ decide (q.1≠k)=true:=by simp[h1.symm.trans e]
   rw[if_neg a,if_neg b];exact ih
  ·have e':¬ q.1=k:=λz=>e (h1.trans z);have a:decide (p.1≠k)=true:=by simp[e]
   have b:decide (q.1≠k)=true:=by simp[e']
   rw[if_pos a,if_pos b];exact .cons ⟨h1,h2⟩ ih
theorem KV.length{kvs:List (κ×V)}{vs:List (κ×Value)}(r:KV kvs vs):kvs.length=vs.length:=Paired.length r
end
abbrev KT(H:Hp):List (List Key×V)->List (List Key×Addr×Value)->Prop:=Paired λp q=>p.1=q.1/\H q.2.1=some (.tup (p.1.map kV))/\RelV p.2 q.2.2
theorem KT.val{H:Hp}{kvs:List (List Key×V)}{xs:List (List Key×Addr×Value)}(r:KT H kvs xs)(k:List Key):RelO (zda kvs k) ((atKey xs k).map (·.2)):=by
 induction r with
 |nil=>exact True.intro
 |@cons p q ps qs h t ih=>
  obtain⟨h1,_,h2⟩:=h
  by_cases e:p.1=k
  ·have e':q.1=k:=h1.symm.trans e;have b:atKey (q::qs) k=some q.2:=by simp[atKey,List.find?_cons,e']
   rw[zg9 e,b];exact h2
  ·have e':¬ q.1=k:=λz=>e (h1.trans z);have b:atKey (q::qs) k=atKey qs k:=by simp[atKey,List.find?_cons,e']
   rw[zha e,b];exact ih
section
variable {P:Program}{w:World}{H:Hp}{h:Heap}{a:Addr}
end
def DGet(H:Hp)(a:Addr)(y:V)(r:Option V):Prop :=
 (∃kvs k,Rd H a (.dK kvs)/\y=kV k/\r=zda kvs k)\/∃kvs k b,Rd H a (.dT kvs)/\y=.ref b/\H b=some (.tup (k.map kV))/\r=zda kvs k
def DPut(H:Hp)(a:Addr)(y v:V)(H':Hp):Prop :=
 (∃kvs k,H a=some (.dK kvs)/\y=kV k/\kvs.length<sizeLine/\H'=upd H a (.dK (zpt kvs k v))) \/
 ∃kvs k b,H a=some (.dT kvs)/\y=.ref b/\H b=some (.tup (k.map kV))/\kvs.length<sizeLine/\H'=upd H a (.dT (zpt kvs k v))
theorem DGet.k{H:Hp}{a:Addr}{kvs:List (Key×V)}{k:Key}(e:H a=some (.dK kvs)):DGet H a (kV k) (zda kvs k):=.inl ⟨kvs,k,.inl e,rfl,rfl⟩
theorem DGet.t{H:Hp}{a b:Addr}{kvs:List (List Key×V)}{k:List Key}(e:H a=some (.dT kvs))(eb:H b=some (.tup (k.map kV))):DGet H a (.ref b) (zda kvs k):=.inr ⟨kvs,k,b,.inl e,rfl,eb,rfl⟩
theorem DPut.k{H:Hp}{a:Addr}{kvs:List (Key×V)}{k:Key}{v:V}(e:H a=some (.dK kvs))(hl:kvs.length<sizeLine):DPut H a (kV k) v (upd H a (.dK (zpt kvs k v))):=.inl ⟨kvs,k,e,rfl,hl,rfl⟩
theorem DPut.t{H:Hp}{a b:Addr}{kvs:List (List Key×V)}{k:List Key}{v:V}(e:H a=some (.dT kvs))(eb:H b=some (.tup (k.map kV)))(hl:kvs.length<sizeLine):
  DPut H a (.ref b) v (upd H a (.dT (zpt kvs k v))):=.inr ⟨kvs,k,b,e,rfl,eb,hl,rfl⟩
section
variable {X:Cx}{pins:List (Addr×Obj)}{σ:St}{H:Hp}{s:Shared}{a:Addr}{y v:V}{u r:Value}{o:Option V}{A:Around}{E:Value->Shared->Prop}
end
section
variable {X:Cx}{pins:List (Addr×Obj)}{σ:St}{H:Hp}{s:Shared}{a:Addr}{kvs:List (Key×V)}{k:Key}{u:Value}{A:Around}{E:Value->Shared->Prop}
end
section
variable {X:Cx}{o i e value:Expr}{pos pos' tpos:Pos}{td ty tv:TE}
end
section
variable {X:Cx}{pos:Pos}
end
structure M1(X:Cx)(o:Expr)(m:Str)(apos:Pos)(e:Expr)(cpos:Pos):Prop where
 base:attributeBase o m X.env (eval o X.env)=eval o X.env
 few:((backTo cpos (starEach [e] X.env)).all (λx=>!x.1) && (backToKw cpos (keywordEach [] X.env)).all (λx=>x.1.isSome)
  && decide (([e]:List Expr).length+([]:List Keyword).length+(if ([]:List Keyword).isEmpty then 0 else 1)<30))=true
 line:(apos.endLine == cpos.line)=true
 trees:backTo cpos (starEach [e] X.env) = [(false,eval e X.env)]
structure M2(X:Cx)(o:Expr)(m:Str)(apos:Pos)(e f:Expr)(cpos:Pos):Prop where
 base:attributeBase o m X.env (eval o X.env)=eval o X.env
 few:((backTo cpos (starEach [e,f] X.env)).all (λx=>!x.1) && (backToKw cpos (keywordEach [] X.env)).all (λx=>x.1.isSome)
  && decide (([e,f]:List Expr).length+([]:List Keyword).length+(if ([]:List Keyword).isEmpty then 0 else 1)<30))=true
 line:(apos.endLine == cpos.line)=true
 trees:backTo cpos (starEach [e,f] X.env) = [(false,eval e X.env),(false,eval f X.env)]
section
variable {X:Cx}{pins:List (Addr×Obj)}{σ:St}{H:Hp}{s:Shared}{a:Addr}{y d:V}{u r:Value}{o:Option V}{A:Around}{E:Value->Shared->Prop}
end
section
variable {X:Cx}{o e f:Expr}{apos cpos:Pos}{td ty tx:TE}
end
section
variable {X:Cx}{pins:List (Addr×Obj)}{σ:St}{H:Hp}{s:Shared}{a:Addr}{kvs:List (Key×V)}{A:Around}{E:Value->Shared->Prop}
end
section
variable {X:Cx}{pins:List (Addr×Obj)}{σ:St}{H:Hp}{s:Shared}{a:Addr}{y:V}{u:Value}{A:Around}{E:Value->Shared->Prop}
end
end L2
namespace Att
open PySem PySem.W PySem.Calls PyProof.Rows
section
variable {prog:Program}{w:World}{A:Around}{E:Value->Shared->Prop}{s:Shared}{K:Frag}
end
end Att
namespace L2
open PySem PySem.Spec PyProof.Rows
section
variable {P:Program}{w:World}{K:PySem.W.Frag}{mg:Str->Option Value}{base:Heap}
end
section
variable {X:Cx}
end
section
variable {κ:Type}[DecidableEq κ]
end
section
variable {K:PySem.W.Frag}{H H':Hp}
theorem RepKV.split{ks:List (Key×D)}{vs:List (Key×V)}{p:Key×D}(h:RepKV K H (p::ks) vs):∃v vs',vs=(p.1,v)::vs'/\Rep K H p.2 v/\RepKV K H ks vs':=by
 obtain⟨h1,h2⟩:=h
 cases vs with
 |nil=>cases h1
 |cons q vs=>
  obtain⟨k,v⟩:=q;rw[List.map_cons,List.map_cons,List.cons.injEq]at h1;rw[List.map_cons,List.map_cons]at h2
  cases h2 with
  |cons r t=>
   obtain⟨e,e2⟩:=h1;have e':p.1=k:=e;subst e';exact⟨v,vs,rfl,r,e2,t⟩
theorem RepKV.cons{ks:List (Key×D)}{vs:List (Key×V)}{k:Key}{d:D}{v:V}(r:Rep K H d v)(h:RepKV K H ks vs):RepKV K H ((k,d)::ks) ((k,v)::vs):=⟨by simp[h.1],.cons r h.2⟩
theorem RepKV.nil':RepKV K H [] []:=⟨rfl,.nil⟩
theorem RepKV.len{ks:List (Key×D)}{vs:List (Key×V)}(h:RepKV K H ks vs):ks.length=vs.length:=by
 have:=congrArg List.length h.1;simpa using this
theorem RepKV.any:∀{ks:List (Key×D)}{vs:List (Key×V)} (k:Key),RepKV K H ks vs->(ks.any λkv=>decide (kv.1=k))=vs.any λkv=>decide (kv.1=k)
 |[],vs,k,h=>by
  cases vs with
  |nil=>rfl
  |cons q vs=>cases h.1
 |p::ks,vs,k,h=>by
  obtain⟨v,vs',rfl,r,t⟩:=h.split;rw[List.any_cons,List.any_cons,RepKV.any k t]
theorem RepKV.map:∀{ks:List (Key×D)}{vs:List (Key×V)}{k:Key}{d:D}{v:V},RepKV K H ks vs->Rep K H d v->RepKV K H (ks.map λkv=>if kv.1=k then (kv.1,d) else kv) (vs.map λkv=>if kv.1=k then (kv.1,v) else kv)
 |[],vs,k,d,v,h,_=>by
  cases vs with
  |nil=>exact RepKV.nil'
  |cons q vs=>cases h.1
 |p::ks,vs,k,d,v,h,rd=>by
  obtain⟨v',vs',rfl,r,t⟩:=h.split;rw[List.map_cons,List.map_cons];have ih:=RepKV.map (k:=k) t rd;obtain⟨pk,pd⟩:=p
  by_cases c:pk=k
  ·simp only[c,if_true];exact RepKV.cons rd ih
  ·simp only[c,if_false];exact RepKV.cons r ih
end
section
variable {K:PySem.W.Frag}{H₀ H H':Hp}{σD:DSt}{σ:St}
end
section
variable {X:Cx}{e:Expr}{te tk tv:DTE}{pos:Pos}
end
section
variable {X:Cx}
variable {o e:Expr}{to te:DTE}{apos cpos:Pos}
end
end L2
namespace SQ
open PySem PyProof.Rows
set_option autoImplicit false
section
variable {κ:KeyKind}
variable {prog:Program}{w:World}{A:Around}{E:Value->Shared->Prop}{s:Shared}{κ:KeyKind}{kd:SortKind}{a₀:Array Keyed}
theorem zhb{st:SortSt}{Q:Unit->SortSt->Prop}(L:zao prog w A s κ kd)(h0:KeysOf κ a₀)(g:SG kd a₀ st)(hp:pendingOf st = #[])(h2:2<=a₀.size)(h64:a₀.size<64)(q:∀st',SG kd a₀ st'->SortedToK κ (arrOf st') a₀.size->Q () st'):wpS (model prog w) A E s sortRuns' Q st:=by
 rw[sortRuns'_eq];refine wpS_bind (wpS_get ?_);dsimp only;simp only[g.sz];have emr:minRun' a₀.size a₀.size 0=a₀.size:=by
  obtain⟨m,hm⟩:∃m,a₀.size=m+1:=⟨a₀.size-1,by omega⟩
  conv=>lhs;arg 1;rw[hm]
  rw[minRun'_succ,if_pos h64,Nat.add_zero]
 rw[emr];refine wpS_bind (wpS_mono (wpS_forRange (I:=λx c z=>∃lo,c=(none,lo)/\SG kd a₀ z/\Cov κ (arrOf z) 0 (pendingOf z).toList lo/\lo<=a₀.size/\x<=lo/\((lo=0/\pendingOf z = #[])\/(lo=a₀.size/\(pendingOf z).size<=1)))
  (Q:=λc z=>c=(none,a₀.size)/\SG kd a₀ z/\Cov κ (arrOf z) 0 (pendingOf z).toList a₀.size/\(pendingOf z).size<=1) (λx c z hx1 hx2 h=>?_) (λc z h=>?_) ⟨0,rfl,g,by rw[hp];rfl,by omega,by omega,.inl ⟨rfl,hp⟩⟩) (λc z h=>?_))
 ·obtain⟨lo,rfl,gz,cv,l1,l2,l3⟩:=h;dsimp only;refine zfs (λc=>?_) (λc=>?_)
  ·have e9:lo=a₀.size:=by omega
   subst e9;refine wpS_pure ⟨rfl,gz,cv,?_⟩;rcases l3 with⟨z,_⟩ |⟨_,z⟩
   ·omega
   ·exact z
  obtain⟨rfl,hpz⟩:lo=0/\pendingOf z = #[]:=by
   rcases l3 with z |⟨z,_⟩
   ·exact z
   ·omega
  refine wpS_bind (zit L h0 gz (by omega) (by omega) λk z1 g1 mv k1 k2 u=>?_);have hp1:pendingOf z1 = #[]:=by rw[mv.pend];exact hpz
  have cv1:Cov κ (arrOf z1) 0 (pendingOf z1).toList 0:=by rw[hp1];rfl
  dsimp only;refine zfs (λcm=>?_) (λcm=>?_)
  ·refine wpS_bind (wpS_lift (wpAny_rule ⟨rfl,?_⟩));refine wpS_bind (znj L h0 g1 (by omega) (by omega) u λz2 g2 mv2 u2=>?_);rw[if_neg (by decide)];have hp2:pendingOf z2 = #[]:=by rw[mv2.pend];exact hp1
   have cv2:Cov κ (arrOf z2) 0 (pendingOf z2).toList 0:=by rw[hp2];rfl
   refine wpS_bind (wpS_get ?_)
   cases hb:(pendingOf z2).back? with
   |none=>
    dsimp only;refine wpS_bind (wpS_modify (wpS_pure ⟨0+(min (a₀.size-0) a₀.size),rfl,⟨g2.perm,g2.kind,g2.fail⟩,?_,by omega,by omega,.inr ⟨by omega,?_⟩⟩))
    ·show Cov κ (arrOf z2) 0 ((pendingOf z2).push (0,min (a₀.size-0) a₀.size,0)).toList (0+(min (a₀.size-0) a₀.size));rw[Array.toList_push];exact cv2.push (by omega) u2
    ·show((pendingOf z2).push (0,min (a₀.size-0) a₀.size,0)).size<=1;rw[hp2];exact Nat.le_refl 1
   |some t=>rw[hp2]at hb;cases hb
  ·refine wpS_bind (wpS_get ?_)
   cases hb:(pendingOf z1).back? with
   |none=>
    dsimp only;refine wpS_bind (wpS_modify (wpS_pure ⟨0+(k),rfl,⟨g1.perm,g1.kind,g1.fail⟩,?_,by omega,by omega,.inr ⟨by omega,?_⟩⟩))
    ·show Cov κ (arrOf z1) 0 ((pendingOf z1).push (0,k,0)).toList (0+(k));rw[Array.toList_push];exact cv1.push k1 u
    ·show((pendingOf z1).push (0,k,0)).size<=1;rw[hp1];exact Nat.le_refl 1
   |some t=>rw[hp1]at hb;cases hb
 ·obtain⟨lo,rfl,gz,cv,l1,l2,l3⟩:=h;have e9:lo=a₀.size:=by omega
  subst e9;refine⟨rfl,gz,cv,?_⟩;rcases l3 with⟨z,_⟩ |⟨_,z⟩
  ·omega
  ·exact z
 ·obtain⟨rfl,gz,cv,hz1⟩:=h;dsimp only
  refine wpS_bind (wpS_mono (wpS_forRange (I:=λx c z=>c=(none,())/\SG kd a₀ z/\Cov κ (arrOf z) 0 (pendingOf z).toList a₀.size/\(pendingOf z).size<=1)
   (Q:=λc z=>c=(none,())/\SG kd a₀ z/\Cov κ (arrOf z) 0 (pendingOf z).toList a₀.size/\(pendingOf z).size<=1) (λx c z hx1 hx2 h=>?_) (λc z h=>h) ⟨rfl,gz,cv,hz1⟩) (λc z h=>?_))
  ·obtain⟨rfl,gz,cv,hz⟩:=h;refine wpS_bind (wpS_get ?_);exact zfs (λc=>wpS_pure ⟨rfl,gz,cv,c⟩) (λc=>absurd hz c)
  ·obtain⟨rfl,gz,cv,hz⟩:=h;refine wpS_pure (q z gz λi j a b=>?_)
   have:∀l:List (Nat×Nat×Nat),l.length<=1->Cov κ (arrOf z) 0 l a₀.size->Up κ (arrOf z) 0 a₀.size:=by
    intro l hl c
    match l,hl,c with
    |[],_,c=>have:0=a₀.size:=c;omega
    |[(b,n,p)],_,c=>
     obtain⟨_,_,u,e⟩:=c;have e':0+n=a₀.size:=e;rw[Nat.zero_add]at e';rw[<-e'];exact u
   exact this _ (by simpa using hz) cv i j (Nat.zero_le _) a (by omega)
end
section
variable {prog:Program}{w:World}{A:Around}{E:Value->Shared->Prop}{s:Shared}
theorem zbz{κ:KeyKind}{kd:SortKind}{a:Addr}{vs:List Value}{n:Nat}{P:Fin->Shared->Prop}(ho:s.heap.get? a=some (seqObj "list" vs.toArray n))(hz:vs.length<=sizeLine)(h64:vs.length<64)
  (L:∀h':Heap,(∀b o,b≠a->s.heap.get? b=some o->h'.get? b=some o)->zao prog w A { s with heap:=h' } κ kd) (h0:KeysOf κ (pairsOf vs))
  (hkk:2<=vs.length->∀(h':Heap) (Q:SortKind->Shared->Prop),(∀b o,b≠a->s.heap.get? b=some o->h'.get? b=some o)->Q kd { s with heap:=h' }->wpAny (model prog w) A (keyKind' vs.toArray) Q E { s with heap:=h' })
  (h:∀out:Array Keyed,out.Perm (pairsOf vs)->SortedToK κ out (pairsOf vs).size->P (.done (.ret .none)) { s with heap:=sortedHeap s.heap a vs (out.map (·.2)) }) :
  wpAny (model prog w) A (Builtin.«list.sort» ⟨[.ref a],[]⟩) P E s:=by
 rw[list_sort_plain];have la:a<s.heap.objs.size:=Heap.lt_size ho;refine wpAny_bind (listItems_at ho rfl ?_);refine wpAny_bind (listUpdate_at ho rfl ?_ (by simpa using hz) (Nat.zero_le _));obtain⟨e1,g1⟩:∃e1,(s.heap.update a (Obj.mapSeq λ_=>#[])).get? a=some (seqObj "list" #[] e1):=⟨_,get?_update_seq ho (λ_=>#[])⟩
 refine wpAny_bind (seqEpoch_at g1 rfl ?_);refine wpAny_bind (wpAny_newTuple ?_ (by simpa using hz));refine wpAny_bind (wpAny_newList ?_ (Nat.zero_le _));refine wpAny_holding ?_;have g6:(((s.heap.update a (Obj.mapSeq λ_=>#[])).push (seqObj "tuple" vs.toArray 0)).push (seqObj "list" #[] 0)).get? a=some (seqObj "list" #[] e1):=Heap.get?_push_of_some _ (Heap.get?_push_of_some _ g1);have keep:∀b o,b≠a->s.heap.get? b=some o->(((s.heap.update a (Obj.mapSeq λ_=>#[])).push (seqObj "tuple" vs.toArray 0)).push (seqObj "list" #[] 0)).get? b=some o:=λb o nb e=>Heap.get?_push_of_some _ (Heap.get?_push_of_some _ (by rw[Heap.get?_update_ne _ _ _ _ nb];exact e));show wpAny (model prog w) A _ P E { s with heap:=((s.heap.update a (Obj.mapSeq λ_=>#[])).push (seqObj "tuple" vs.toArray 0)).push (seqObj "list" #[] 0) };dsimp only;have sz:vs.toArray.size=vs.length:=by simp
 by_cases c:vs.toArray.size<2
 ·rw[if_pos c,if_pos c];refine wpAny_bind (wpAny_pure ?_);rw[StateT.run_pure];refine wpAny_bind (wpAny_pure ?_);dsimp only;refine wpAny_bind (seqEpoch_at g6 rfl ?_);refine wpAny_bind (listUpdate_at g6 rfl ?_ (Nat.zero_le _) (by show(Array.map _ (pairsOf vs)).size<=_;rw[Array.size_map,pairsOf_size,sizeLine_eq];omega));simp only[bne_self_eq_false,Bool.false_eq_true,if_false];refine wpAny_pure (h (vs.toArray.zip vs.toArray) (Array.Perm.refl _) λi j hij hj=>?_);have:i=j:=by rw[pairsOf_size]at hj;omega
  subst this;exact KeyOrd.kle_refl _
 ·rw[if_neg c,if_neg c];refine wpAny_bind (hkk (by omega) _ _ keep ?_)
  refine wpAny_bind (wpAny_mono (zhb (κ:=κ) (kd:=kd) (a₀:=pairsOf vs) (st:=SortSt.mk' kd (vs.toArray.zip vs.toArray) #[] 7 none)
   (Q:=λ_ st'=>(arrOf st').Perm (pairsOf vs)/\failedOf st'=none/\SortedToK κ (arrOf st') (pairsOf vs).size) (L _ keep)
   h0 ⟨Array.Perm.refl _,rfl,rfl⟩ rfl (by rw[pairsOf_size];omega) (by rw[pairsOf_size];exact h64) λst' g' s'=>⟨g'.perm,g'.fail,s'⟩) ?_ λ_ _ e=>e)
  rintro ⟨⟨⟩,st'⟩ s' ⟨rfl,hp,hf,hs⟩;dsimp only;refine wpAny_bind (seqEpoch_at g6 rfl ?_);refine wpAny_bind (listUpdate_at g6 rfl ?_ (Nat.zero_le _) (by
   show(Array.map _ (arrOf st')).size<=_;rw[Array.size_map,hp.size_eq,pairsOf_size];omega))
  rw[hf];simp only[bne_self_eq_false,Bool.false_eq_true,if_false];exact wpAny_pure (h (arrOf st') hp hs)
theorem zbn{κ:KeyKind}{kd:SortKind}{l:Addr}{T:String}{o:Obj}{vs:List Value}{n:Nat}{Q:Value->Shared->Prop}(hT:T = "list" \/ T = "tuple")(ho:s.heap.get? l=some o)(hc:o.cls=.type T)(hd:o.data=.seq vs.toArray n)(hz:vs.length<=sizeLine)(h64:vs.length<64)
  (L:∀(A':Around) (h':Heap),A'.units<=A.units+8->(∀b o,s.heap.get? b=some o->h'.get? b=some o)->zao prog w A' { s with heap:=h' } κ kd) (h0:KeysOf κ (pairsOf vs))
  (hkk:2<=vs.length->∀(A':Around) (E':Value->Shared->Prop) (h':Heap) (Q:SortKind->Shared->Prop),(∀b o,s.heap.get? b=some o->h'.get? b=some o)->Q kd { s with heap:=h' }->wpAny (model prog w) A' (keyKind' vs.toArray) Q E' { s with heap:=h' })
  (h:∀(out:Array Keyed) (h':Heap) (r:Addr) (e:Nat),out.Perm (pairsOf vs)->SortedToK κ out (pairsOf vs).size->s.heap.objs.size<=r->h'.get? r=some (seqObj "list" (out.map (·.2)) e)->(∀b o,s.heap.get? b=some o->h'.get? b=some o)->Q (.ref r) { s with heap:=h' }) :
  wpAny (model prog w) A (call (.builtin "sorted") [.ref l]) Q E s:=by
 refine Calls.call_function_entry kind_sorted plain_sorted entry_sorted (args_sorted1 _) ?_;unfold Builtin.«sorted»;refine wpAny_bind (m:=checkCount "sorted" 1 1 _) (wpAny_pure ?_);refine wpAny_bind (zll hT ho hc hd (by simpa using hz) ?_);rw[List.toList_toArray];refine wpAny_bind (wpAny_newList ?_ hz);have es:((s.heap.push (seqObj "list" #[] 0)).update s.heap.objs.size (Obj.mapSeq (·++vs.toArray))).objs.size=s.heap.objs.size+1:=by rw[Heap.size_update,size_push']
 have gL:(((s.heap.push (seqObj "list" #[] 0)).update s.heap.objs.size (Obj.mapSeq (·++vs.toArray))).push (seqObj "list" vs.toArray 0)).get? (s.heap.objs.size+1)=some (seqObj "list" vs.toArray 0):=by rw[<-es];exact Heap.get?_push_size _ rfl
 have k2:∀b o,s.heap.get? b=some o->(((s.heap.push (seqObj "list" #[] 0)).update s.heap.objs.size (Obj.mapSeq (·++vs.toArray))).push (seqObj "list" vs.toArray 0)).get? b=some o:=λb o e=>
  Heap.get?_push_of_some _ (by rw[Heap.get?_update_ne _ _ _ _ (Nat.ne_of_lt (Heap.lt_size e))];exact Heap.get?_push_of_some _ e)
 have nb:∀b o,s.heap.get? b=some o->b≠s.heap.objs.size+1:=λb o e=>Nat.ne_of_lt (Nat.lt_succ_of_lt (Heap.lt_size e));show wpAny _ _ _ _ _ { s with heap:=((s.heap.push (seqObj "list" #[] 0)).update s.heap.objs.size (Obj.mapSeq (·++vs.toArray))).push (seqObj "list" vs.toArray 0) };rw[es];refine wpAny_bind (wpAny_holding (wpAny_call_entry slot_list_sort ⟨_,gL,rfl⟩ entry_list_sort (zbz (κ:=κ) (kd:=kd) gL hz h64 (λh' k'=>L _ h' (zpq A) λb o e=>k' b o (nb b o e) (k2 b o e)) h0 (λh2 h' Q k' q=>hkk h2 _ _ h' Q (λb o e=>k' b o (nb b o e) (k2 b o e)) q) λout p1 p2=>⟨_,rfl,?_⟩) (args_list_sort _)));refine wpAny_pure ⟨_,rfl,?_⟩;obtain⟨e,he⟩:=sortedAll_at s.heap vs (out.map (·.2));exact h out _ _ e p1 p2 (Nat.le_succ _) he λb o z=>sortedAll_old z
end
end SQ
namespace L2
open PySem PySem.Spec PyProof.Rows SQ
section
variable {X:Cx}
theorem zdb{pins:List (Addr×Obj)}{σ:St}{H:Hp}{s:Shared}{Q:List D->Prop}{xs:List D}{vs:List V}{us:List Value}{a:Addr}{T:String}{o:Obj}{n:Nat}(I:Inv X pins σ H s)(r:Reps X.K H xs vs)(rv:Vals vs us)(hT:T = "list" \/ T = "tuple")(ho:s.heap.get? a=some o)(hc:o.cls=.type T)(hd:o.data=.seq us.toArray n)(hz:vs.length<=sizeLine)(h64:vs.length<64)(q:ziy xs Q):
  wpAny (model X.prog X.w) X.A (call (.builtin "sorted") [.ref a]) (zeq X pins σ H Q) X.xe s:=by
 have zu:us.length<=sizeLine:=by rw[<-rv.length];exact hz
 have fin:∀(out:Array Keyed) (h':Heap) (p:Addr) (e:Nat) (ys:List D) (vs':List V),(out.map (·.2)).toList.Perm us->Vals vs' (out.map (·.2)).toList->Reps X.K H ys vs'->s.heap.objs.size<=p->h'.get? p=some (seqObj "list" (out.map (·.2)) e)->(∀b o,s.heap.get? b=some o->h'.get? b=some o)->Q ys->zeq X pins σ H Q (.ref p) { s with heap:=h' }:=by
  intro out h' p e ys vs' pm rv' r' hp g k qy;have hn:=I.hok.fresh hp;have lv:vs'.length<=sizeLine:=by rw[rv'.length,pm.length_eq];exact zu
  exact⟨p,_,vs',ys,rfl,I.laid (t':=s.toks) (o:=.lst vs') k hp ⟨lv,(out.map (·.2)).toList,e,rv',g⟩,yk hn _,hn,zx,r'.same (yk hn _),qy⟩
 rcases q with⟨ns,rfl,q⟩ |⟨tss,rfl,hne,q⟩
 ·have e1:=Reps.of_ints r;subst e1;have hi:=wx rv
  have hk:∀v∈us,∃k,intK.keyOf v=some k:=λv hv=>by
   obtain⟨i,t,rfl⟩:=hi.all v hv;exact⟨i,rfl⟩
  refine zbn (κ:=intK) (kd:=oneType') hT ho hc hd zu (by rw[<-rv.length];exact h64) (λA' h' _ _=>zkc) (vn hk) (λh2 A' E' h' Q' k q=>?_) λout h' p e p1 p2 hp g k=>?_
  ·cases us with
   |nil=>simp at h2
   |cons u us=>
    cases us with
    |nil=>simp at h2
    |cons u2 us=>rw[keyKind_ints hi];exact wpAny_pure q
  ·obtain⟨pm,ks,a2,pw⟩:=jp p1 p2 hk;obtain⟨vs',ds',rv',r',pd⟩:=zbm pm rv r;obtain⟨ms,rfl,pms⟩:=zc9 deI zps pd;have e2:=Reps.of_ints r';subst e2
   have ek:ks=ms:=by
    have hm:=wx rv';clear pm pms pw pd r' rv';generalize (out.map (·.2)).toList=l at hm a2
    induction a2 generalizing ms with
    |nil=>cases hm;rfl
    |cons h t ih=>
     cases hm with
     |cons i t' h'=>
      simp only[intK,Option.some.injEq]at h;subst h;rw[ih _ h']
   subst ek;have:=ziw pms (pw.imp λh=>by simpa[intK,KeyOrd.kle]using h);exact fin out h' p e _ _ pm rv' r' hp g k (by rw[this];exact q)
 ·have rf:=zft I r rv
  have hk:∀v∈us,∃k,(ziu s.heap).keyOf v=some k:=λv hv=>by
   obtain⟨t,_,h⟩:=rf.mem hv;exact⟨t,zeu h⟩
  refine zbn (κ:=ziu s.heap) (kd:=tuples' true) hT ho hc hd zu (by rw[<-rv.length];exact h64) (λA' h' _ k=>zpr k) (vn hk) (λh2 A' E' h' Q' k q=>zln (rf.imp λ_ _ h=>h.keep k) hne h2 q) λout h' p e p1 p2 hp g k=>?_;obtain⟨pm,ks,a2,pw⟩:=jp p1 p2 hk;obtain⟨vs',ds',rv',r',pd⟩:=zbm pm rv r;obtain⟨ss,rfl,pms⟩:=zc9 deT ztk pd;have rf':=zft I r' rv';have ek:ks=ss:=by
   clear pm pms pw r' rv' pd;generalize (out.map (·.2)).toList=l at rf' a2
   induction a2 generalizing ss with
   |nil=>cases rf';rfl
   |cons h t ih=>
    cases rf' with
    |cons h1 t1=>
     have:=zeu h1;rw[show(ziu s.heap).keyOf _=zbl s.heap _ from rfl,this]at h
     cases h;rw[ih _ t1]
  subst ek;have:=zix pms (pw.imp λh=>by simpa[ziu,KeyOrd.kle]using h);exact fin out h' p e _ _ pm rv' r' hp g k (by rw[this];exact q)
def ziz:List D->(List D->Prop)->Prop
 |[.list xs],Q=>xs.length<64/\ziy xs Q
 |[.tuple xs],Q=>xs.length<64/\ziy xs Q
 |_,_=>False
theorem zpu:CallF X (.builtin "sorted") ziz:=⟨λpins s σ H vs us ds Q I rv rd q=>by
 match ds,q,rd with
 |[.list xs],q,rd=>
  obtain⟨v,rfl,r⟩:=rd.one;obtain⟨a,vs,rfl,h,r⟩:=r.list.sq;obtain⟨u,rfl,r1⟩:=rv.one
  cases r1;obtain⟨its,rvs,pl,hz⟩:=I.list h;obtain⟨o,ho,hc,n,hd⟩:=pl.isList;exact zdb I r rvs (.inl rfl) ho hc hd hz (by rw[<-r.length];exact q.1) q.2
 |[.tuple xs],q,rd=>
  obtain⟨v,rfl,r⟩:=rd.one;obtain⟨a,vs,rfl,h,r⟩:=r.tuple;obtain⟨u,rfl,r1⟩:=rv.one
  cases r1;obtain⟨its,rvs,⟨o,ho,hc,n,hd⟩,hz⟩:=I.tuple h;exact zdb I r rvs (.inr rfl) ho hc hd hz (by rw[<-r.length];exact q.1) q.2⟩
end
end L2
namespace L2
open PySem PySem.Spec PyProof.Rows
theorem zb0(n:Int)(j:Nat):wa n (j+1)=.int n::wa (n+1) j:=by
 unfold wa;rw[List.range_succ_eq_map,List.map_cons,List.map_map];refine List.cons_eq_cons.mpr ⟨by simp,List.map_congr_left λi _=>?_⟩;show PyData.int (n+((i+1:Nat):Int))=PyData.int (n+1+(i:Nat));congr 1;omega
end L2
namespace L2
open PySem PySem.Spec PyProof.Rows PySem.Builtin PySem.Builtin.Str
def tx(x:Str):List Nat:=x.cps.toList
def Dl(r:List Nat):Prop:=∀c t,r=c::t->c=44\/c=41\/c=93
theorem Dl.c{c:Nat}{r:List Nat}(h:c=44\/c=41\/c=93):Dl (c::r):=λa t e=>by
 rw[<-(List.cons.inj e).1];exact h
section
variable {xs ys:List D}{r r':List Nat}
end
end L2
namespace L2
open PySem PySem.Spec PyProof.Rows
section
variable {X:Cx}{e:Expr}{p pos:Pos}
end
section
variable {K:PySem.W.Frag}{H₀ H H':Hp}{σD:DSt}{σ:St}
theorem Nst.upd{b:Addr}{vs:List V}{ys:List D}(p:Pers H (upd H b (.lst vs)))(r:Reps K H ys vs):∀{xss:List (List D)}{as:List Addr}{k:Nat},as.Nodup->Nst K H xss as->as[k]?=some b->Nst K (upd H b (.lst vs)) (xss.set k ys) as
 |[],[],k,_,_,e=>by simp at e
 |xs::xss,c::as,0,nd,h,e=>by
  simp at e;subst e;rw[List.nodup_cons]at nd;exact⟨⟨vs,zx,r.mono p⟩,h.2.keep p λa ha u hu=>by rw[zw (λz=>nd.1 (by rw[<-z];exact ha))];exact hu⟩
 |xs::xss,c::as,k+1,nd,h,e=>by
  rw[List.nodup_cons]at nd;have e':as[k]?=some b:=by simpa using e
  obtain⟨⟨ws,e1,r1⟩,t⟩:=h;exact⟨⟨ws,by rw[zw (λz=>nd.1 (by rw[z];exact List.mem_of_getElem? e'))];exact e1,r1.mono p⟩,Nst.upd p r nd.2 t e'⟩
end
section
variable {X:Cx}{e e1 e2 e3:Expr}{pos:Pos}{te t3:DTE}{t1 t2:DTF}
theorem Nst.at:∀{K:PySem.W.Frag}{H:Hp}{xss:List (List D)}{as:List Addr}{k:Nat}{xs:List D},Nst K H xss as->xss[k]?=some xs->∃b vs,as[k]?=some b/\H b=some (.lst vs)/\Reps K H xs vs
 |_,_,_::_,b::_,0,_,h,e=>by
  simp at e;subst e;obtain⟨vs,e1,r⟩:=h.1;exact⟨b,vs,rfl,e1,r⟩
 |_,_,_::_,_::_,k+1,_,h,e=>by
  obtain⟨b,vs,h1,h2⟩:=Nst.at h.2 (k:=k) (by simpa using e);exact⟨b,vs,by simpa using h1,h2⟩
 |_,_,[],[],_,_,_,e=>by simp at e
def zvm(b:Bool):Value->Bool
 |.bool c=>c == b
 |_=>false
theorem zfu{bs:List Bool}{its:List Value}(r:Vals (bs.map V.bl) its)(k:Bool):its.countP (zvm k)=bs.count k/\∀y∈its,∃c,y=Value.bool c:=by
 induction bs generalizing its with
 |nil=>cases r;exact⟨rfl,λy hy=>by cases hy⟩
 |cons n ns ih=>
  cases r with
  |cons h t=>
   cases h;obtain⟨h1,h2⟩:=ih t;refine⟨by rw[List.countP_cons,h1,List.count_cons];rfl,λy hy=>?_⟩;rcases List.mem_cons.mp hy with rfl|hy
   ·exact⟨_,rfl⟩
   ·exact h2 y hy
theorem zi0:MtR X "list.count" (λx vs H Q=>∃(l:Addr) (bs:List Bool) (k:Bool),x=.ref l/\vs = [.bl k]/\SqL X.K H l (bs.map V.bl)/\Q (.int ((bs.count k:Nat):Int)) H):=by
 intro pins s σ H x vs v us Q I rx rv h;obtain⟨l,bs,k,rfl,rfl,hR,q⟩:=h
 cases rx;obtain⟨u,rfl,ru⟩:=rv.one
 cases ru;obtain⟨its,r,⟨⟨cls,dd,data,sl⟩,n,e,hc,hd,hdt⟩,z⟩:=I.list hR;simp only at hc hd hdt;subst hc hd hdt;obtain⟨h1,h2⟩:=zfu r k;refine call_meets F.slot_list_count ⟨_,e,rfl⟩ F.entry_list_count (F.args_list_count_2 _ _) (PySem.SeqAt.list_countAt l its.toArray n _ sl (.bool k) (zvm k)) ⟨e,λy hy=>?_,?_⟩
 ·obtain⟨c,rfl⟩:=h2 y (by simpa using hy);exact PySem.SeqAt.EqAt.bool_bool c k
 ·rw[List.toList_toArray,h1];exact⟨.int ((bs.count k:Nat):Int),H,I.tok _,⟨_,rfl⟩,q⟩
theorem zdc{K:PySem.W.Frag}{H:Hp}:∀{bs:List Bool}{vs:List V},Reps K H (bs.map PyData.bool) vs->vs=bs.map V.bl
 |[],_,r=>by cases r;rfl
 |n::ns,_,r=>by
  cases r with
  |cons r t=>
   cases r;rw[zdc t];rfl
variable {o:Expr}{to:DTE}{apos cpos:Pos}
def znl(to te:DTE):DTE:=λσ Q=>to σ λd=>match d with
 |.list xs=>te σ λk=>match k with
  |.bool b=>∃(bs:List Bool),xs=bs.map PyData.bool/\Q (.int ((bs.count b:Nat):Int))
  |_=>False
 |_=>False
theorem zbo(ho:DV X o to)(ha:DE X e te)(hbase:attributeBase o "count" X.env (eval o X.env)=eval o X.env:=by rfl)
  (hfew:((backTo cpos (starEach [e] X.env)).all (λx=>!x.1) && (backToKw cpos (keywordEach [] X.env)).all (λx=>x.1.isSome) && decide (([e]:List Expr).length+([]:List Keyword).length+(if ([]:List Keyword).isEmpty then 0 else 1)<30))=true:=by rfl)
  (hline:(apos.endLine == cpos.line)=true:=by rfl) (hs:starEach [e] X.env=(false,eval e X.env)::starEach [] X.env:=by rfl) (hplain:(backTo cpos (starEach [] X.env)).any (·.1)=false:=by rfl) :
  DE X (.Call (.Attribute o "count" apos) [e] [] cpos) (znl to te) :=
 DE.of (zqv F.plainAttrs_list F.slot_list_count F.type_list_count zi0 ho.pe (wm ha.pe ke hs) hbase hfew hline hs hplain) λσ H H₀ σD QD ok q=>⟨H₀,σD,_,ok,q,λv H1 d s1 r1 q1=>by
  cases d with
  |list xs=>
   obtain⟨a,vs,rfl,hR,rp⟩:=r1.list;refine⟨.inl ⟨rfl,vs,.inl hR⟩,H₀,σD,_,ok.after s1,q1,λv2 H2 d2 s2 r2 q2=>?_⟩
   cases d2 with
   |bool b=>
    obtain⟨bs,rfl,q3⟩:=q2
    cases r2;have e:=zdc rp;subst e;refine⟨a,bs,b,rfl,rfl,?_,.int _,s1.trans s2,.int,q3⟩;rcases hR with h |⟨o,h⟩
    ·exact .inl (.inl (s2 _ _ h))
    ·exact .inl (.inr ⟨o,s2 _ _ h⟩)
   |_=>exact q2.elim
  |_=>exact q1.elim⟩
end
structure Sl(fs:List Addr)(e:Addr)(h h':Heap):Prop where
 keep:∀b o,h.get? b=some o->b≠e->b∉fs->h'.get? b=some o
 slot:∀b o,h.get? b=some o->b≠e->∃sl,h'.get? b=some { o with slots:=sl }
section
variable {M:Model}{A:Around}{E:Value->Shared->Prop}{s:Shared}{base:Heap}{env:Env}{outer:List Env}{L e:Addr}{Q:Unit->Shared->Prop}
end
section
variable {fs fs':List Addr}{H H1:Hp}{h h1 h2:Heap}{a:Addr}{P:Program}{w:World}
theorem Un.sl(u:Un fs [] H H1 h h1)(S:Sl fs' a h1 h2)(hf:∀b o,b∈fs'->h.get? b=some o->b∈fs)(ha:h.get? a=none):Un fs [] H H1 h h2 where
 keep:=λb o e n hb hx=>S.keep b o (u.keep b o e n hb hx) (λz=>by rw[z,ha]at e;cases e) λz=>hb (hf b o z e)
 slot:=λb o e n hb hx=>by
  obtain⟨sl,e1⟩:=u.slot b o e n hb hx;obtain⟨sl',e2⟩:=S.slot b _ e1 λz=>by rw[z,ha]at e;cases e
  exact⟨sl',e2⟩
 free:=u.free
 there:=λb o e hx=>by
  obtain⟨o',e1⟩:=u.there b o e hx;obtain⟨sl,e2⟩:=S.slot b _ e1 λz=>by rw[z,ha]at e;cases e
  exact⟨_,e2⟩
 tups:=u.tups
 frzs:=u.frzs
 tbls:=u.tbls
theorem HOk.sl(hok:HOk P w H1 h1)(S:Sl fs' a h1 h2)(hf:∀b∈fs',H1 b=none)(ha:H1 a=none):HOk P w H1 h2:=λb o e=>by
 have ne:∀c u,H1 c=some u->c≠a/\c∉fs':=λc u q=>⟨λz=>(by rw[z,ha]at q;cases q),λz=>by rw[hf c z]at q;cases q⟩
 refine(hok b o e).stay (λc u hc q=>?_) (λ_ q=>q) λ_ _ q=>q;rcases hc with rfl|hc
 ·exact S.keep c u q (ne c o e).1 (ne c o e).2
 ·exact S.keep c u q (ne c _ hc).1 (ne c _ hc).2
end
theorem ObjOk.ex{P:Program}{w:World}{H:Hp}{h:Heap}{a:Addr}{o:HO}(x:ObjOk P w H h a o):∃u,h.get? a=some u:=by
 cases o with
 |lst xs=>obtain⟨_,_,_,_,e⟩:=x;exact⟨_,e⟩
 |tup xs=>obtain⟨_,_,_,o,e,_⟩:=x;exact⟨_,e⟩
 |dK kvs=>obtain⟨_,_,_,_,o,_,_,e,_⟩:=x;exact⟨_,e⟩
 |dT kvs=>obtain⟨_,_,_,_,o,_,_,e,_⟩:=x;exact⟨_,e⟩
 |set S n=>obtain⟨o,_,_,_,e,_⟩:=x;exact⟨_,e⟩
 |ins C dx fs=>obtain⟨_,_,_,e,_⟩:=x;exact⟨_,e⟩
 |own y=>exact x
 |xd fs=>obtain⟨_,⟨_,_,_,e,_⟩,_⟩:=x;exact⟨_,e⟩
 |rng lo hi=>obtain⟨_,_,_,e⟩:=x;exact⟨_,e⟩
 |frz ob u=>exact⟨_,x.1⟩
 |tbl ps=>obtain⟨_,_,_,_,e,_⟩:=x;exact⟨_,e⟩
 |met f y=>exact⟨_,x⟩
 |ext φ=>exact x.2.1
structure Room0(k:Nat)(A:Around):Prop where
 dp:A.depth+3 * k+5<recursionLimit
 un:A.units+16 * k+200<cLine
 gd:A.guards=some []
theorem Room0.mono{j k:Nat}{A:Around}(r:Room0 k A)(h:j<=k):Room0 j A:=⟨by have:=r.dp;omega,by have:=r.un;omega,r.gd⟩
section
variable {X:Cx}{pins:List (Addr×Obj)}{σ:St}{H:Hp}{s:Shared}{e:Value}
end
structure FnH(P:Program)(w:World)(K:PySem.W.Frag)(mg:Str->Option Value)(base:Heap)(k:Nat)(f:Addr)(fd:FuncData)(ps:List Str)(sp:Sp):Prop where
 len:∀vs H Q E,sp vs H Q E->vs.length=ps.length
 run:∀(A:Around) (outer:List Env) (s:Shared) (H:Hp) (args:Args) (us:List Value) (vs:List V) (Q:VK) (E:XK),Room0 k A->Env0 P w K mg base A outer s H->BindsTo s fd args (ps.zip us)->Vals vs us->sp vs H Q E ->
  codeAny (model P w) A (.call (.ref f) args) (CR CX0 outer P w H s Q E) s
section
variable {P:Program}{w:World}{K:PySem.W.Frag}{mg:Str->Option Value}{base:Heap}
end
structure DSX(X:Cx)(st:Stmt)(t:DTS):Prop where
 run:∀(pins:List (Addr×Obj)) (s:Shared) (σ:St) (H:Hp) (σD:DSt) (Dn:vj),Inv X pins σ H s->DOk X.K X.H₀ H σD σ->t Dn σD->wpAny (model X.prog X.w) X.A (exec st X.env) (DSP X pins X.H₀ H Dn) X.xe s
structure DSXs(X:Cx)(st:List Stmt)(t:DTS):Prop where
 run:∀(pins:List (Addr×Obj)) (s:Shared) (σ:St) (H:Hp) (σD:DSt) (Dn:vj),Inv X pins σ H s->DOk X.K X.H₀ H σD σ->t Dn σD->wpAny (model X.prog X.w) X.A (execs st X.env) (DSP X pins X.H₀ H Dn) X.xe s
section
variable {X:Cx}{st:Stmt}{sts rest:List Stmt}{t u:DTS}{pos:Pos}
end
section
variable {P:Program}{w:World}{K:PySem.W.Frag}{mg:Str->Option Value}{base:Heap}{N:List Str}{qual:Str}{scope:Scope}{f:Addr}{cd:Value}{A:Around}{outer:List Env}{s:Shared}{H:Hp}{E:XK}
end
section
variable {P:Program}{w:World}{K:PySem.W.Frag}{mg:Str->Option Value}{base:Heap}
end
structure zxa(K:PySem.W.Frag)(CK C:Addr):Prop where
 sub:PySem.W.kitCls K (.ref C) (.ref CK)=some true
 bas:PySem.W.subIn K (.ref CK) (.type "BaseException")=some true
section
variable {X:Cx}{pins:List (Addr×Obj)}{σ:St}{H H₀:Hp}{s s':Shared}{E:XK}{e:Value}
end
section
variable {X:Cx}
end
end L2
namespace L2
open PySem PySem.Spec PyProof.Rows PySem.W
section
variable {prog:Program}{w:World}{A:Around}{E:Value->Shared->Prop}{s:Shared}{K:Frag}{x C:Addr}{ox:Obj}{od:Option Obj}
end
structure XIs(K:Frag)(C:Addr):Prop where
 ga:findIn K (.ref C) "__getattribute__" = some (some (.builtin "BaseException.__getattribute__"))
 hk:findIn K (.ref C) "__getattr__" = some none
 bas:mroIn K C (.type "BaseException")=some true
 dct:hasDictIn K C=true
 fnd:findIn K (.ref C) "__class__" = some (some (.builtin "object.__class__"))
 spc:specialIn K (.builtin "object.__class__") "__get__" = some (some (.builtin "getset_descriptor.__get__"))
 tks:takesIn K (.builtin "object.__class__")=some true
 mro:mroIn K C (.type "object")=some true
section
variable {X:Cx}{pins:List (Addr×Obj)}{σ:St}{H:Hp}{s:Shared}
def XDc(H:Hp)(od:Option Addr):Prop:=od=none\/∃d fs,od=some d/\H d=some (.xd fs)
theorem XDc.of{K:Frag}{x:Str×List (Str×Int)}{od:Option Addr}(h:(x.2 = []/\od=none)\/∃d,od=some d/\H d=some (.xd (x.2.map λp=>(p.1,V.int p.2)))):XDc H od:=by
 rcases h with h |⟨d,e,h⟩
 ·exact .inl h.2
 ·exact .inr ⟨d,_,e,h⟩
variable {e:Expr}{pos p:Pos}
variable {o:Expr}{to te:DTE}{apos cpos:Pos}
end
end L2
namespace L2
open PySem PySem.Spec PyProof.Rows PySem.W
section
variable {K:Frag}{C D:Addr}{t:Value}{b:Bool}
end
theorem y9{t R:DTS}{Dn:vj}{σ:DSt}(P:DSt->Prop)(h:∀N:DSt->Prop,(∀σ',P σ'->N σ')->t { Dn with nx:=N } σ)(k:∀σ',P σ'->R Dn σ'):zpj t R Dn σ:=h _ k
def ztl:DOp:=λa b Q=>match a,b with
 |.bool i,.bool j=>Q (.bool (decide (i=j)))
 |_,_=>False
def znm:DOp:=λa b Q=>match a,b with
 |.bool i,.bool j=>Q (.bool (!decide (i=j)))
 |_,_=>False
theorem ztm{X:Cx}:OpR X (compareOp .Is) (λx y H Q=>∃a b,x=.bl a/\y=.bl b/\Q (.bl (decide (a=b))) H):=by
 intro pins s σ H x y v w Q I rv rw' h;obtain⟨a,b,rfl,rfl,q⟩:=h;obtain rfl:v=Value.bool a:=rv;obtain rfl:w=Value.bool b:=rw';have e:isSame (Value.bool a) (Value.bool b)=pure (decide (a=b)):=by cases a <;> cases b <;> rfl
 refine wpAny_bind (wpAny_of_eq e (wpAny_pure ?_));exact⟨.bl (decide (a=b)),H,I,rfl,q⟩
section
variable {X:Cx}
theorem zre:OpD X (compareOp .Is) ztl:=OpD.of ztm λx y H a b Q ra rb q=>by
 cases a with
 |bool i=>
  cases b with
  |bool j=>
   have ra:=ra.rep (λxs z=>by cases z);have rb:=rb.rep (λxs z=>by cases z)
   cases ra
   cases rb;exact⟨i,j,rfl,rfl,.bool (decide (i=j)),Same.refl _,.bl,q⟩
  |_=>exact q.elim
 |_=>exact q.elim
theorem ztn:OpD X (compareOp .IsNot) znm:=OpD.of zlf λx y H a b Q ra rb q=>by
 cases a with
 |bool i=>
  cases b with
  |bool j=>
   have ra:=ra.rep (λxs z=>by cases z);have rb:=rb.rep (λxs z=>by cases z)
   cases ra
   cases rb;exact⟨i,j,rfl,rfl,.bool (!decide (i=j)),Same.refl _,.bl,q⟩
  |_=>exact q.elim
 |_=>exact q.elim
end
end L2
namespace L2
open PySem PySem.Spec PyProof.Rows
section
variable {X:Cx}
end
section
variable {K:PySem.W.Frag}{H₀ H:Hp}{σD:DSt}{σ:St}
def O.with:O->O->O
 |.anc a o,o'=>.anc a (o.with o')
 |_,o'=>o'
theorem RepO.ref{o:O}{v:V}{f:List Addr}(h:RepO K H o v f):∃a,v=.ref a:=by
 induction o with
 |anc a o ih=>exact⟨a,h.1⟩
 |lst xs=>obtain⟨a,_,e,_⟩:=h;exact⟨a,e⟩
 |dct xs=>obtain⟨a,_,e,_⟩:=h;exact⟨a,e⟩
 |nst xs ds=>obtain⟨a,_,_,e,_⟩:=h;exact⟨a,e⟩
 |ins c fs=>obtain⟨a,_,_,_,e,_⟩:=h;exact⟨a,e⟩
 |mix ms=>obtain⟨a,_,_,e,_⟩:=h;exact⟨a,e⟩
theorem RepO.with{H':Hp}{o o':O}{v:V}{f f':List Addr}(h:RepO K H o v f)(h':RepO K H' o' v f'):RepO K H' (o.with o') v f':=by
 induction o with
 |anc a o ih=>exact⟨h.1,ih h.2⟩
 |_=>exact h'
end
def W.plain:W->Bool
 |.val _=>true
 |.pen=>true
 |_=>false
theorem RepWs.mono{K:PySem.W.Frag}{H H':Hp}(p:Pers H H'){ws:List W}{vs:List V}(h:∀w∈ws,w.plain=true)(q:RepWs K H ws vs):RepWs K H' ws vs:=by
 induction q with
 |nil=>exact .nil
 |@cons w _ _ _ r t ih=>
  refine .cons ?_ (ih λx hx=>h x (List.mem_cons_of_mem _ hx));have:=h w List.mem_cons_self
  cases w with
  |val d=>exact Rep.mono p r
  |pen=>obtain⟨a,rfl,r⟩:=r;exact⟨a,rfl,p _ _ r rfl⟩
  |_=>cases this
abbrev zlp:=List W->O->List W->(D->O->Prop)->Prop
structure zkf where
 nx:DSt->Prop
 rt:D->DSt->Prop
 bk:DSt->Prop:=λ_=>False
 ct:DSt->Prop:=λ_=>False
abbrev GTS:=zkf->DSt->Prop
def znn(K:PySem.W.Frag)(H₀ H:Hp)(Gn:zkf):zh2 where
 nx:=λσ' H'=>∃σD',DOk K H₀ H' σD' σ'/\Pers H H'/\Gn.nx σD'
 bk:=λσ' H'=>∃σD',DOk K H₀ H' σD' σ'/\Pers H H'/\Gn.bk σD'
 ct:=λσ' H'=>∃σD',DOk K H₀ H' σD' σ'/\Pers H H'/\Gn.ct σD'
 rt:=λv H'=>∃σ' σD' d,DOk K H₀ H' σD' σ'/\Rep K H' d v/\Gn.rt d σD'
structure DGS(X:Cx)(st:Stmt)(t:GTS):Prop where
 run:∀(pins:List (Addr×Obj)) (s:Shared) (σ:St) (H H₀:Hp) (σD:DSt) (Gn:zkf),Inv X pins σ H s->DOk X.K H₀ H σD σ->t Gn σD->wpAny (model X.prog X.w) X.A (exec st X.env) (SP X pins (znn X.K H₀ H Gn)) X.xe s
structure DGSs(X:Cx)(st:List Stmt)(t:GTS):Prop where
 run:∀(pins:List (Addr×Obj)) (s:Shared) (σ:St) (H H₀:Hp) (σD:DSt) (Gn:zkf),Inv X pins σ H s->DOk X.K H₀ H σD σ->t Gn σD->wpAny (model X.prog X.w) X.A (execs st X.env) (SP X pins (znn X.K H₀ H Gn)) X.xe s
section
variable {X:Cx}{st:Stmt}{sts rest:List Stmt}{t u:GTS}{e:Expr}{te:DTE}{pos:Pos}
theorem DGS.of{t':TS}(h:PS X st t')(k:∀σ H H₀ σD Gn,DOk X.K H₀ H σD σ->t Gn σD->t' (znn X.K H₀ H Gn) σ H):DGS X st t :=
 ⟨λpins s σ H H₀ σD Gn I ok q=>h pins s σ H _ I (k σ H H₀ σD Gn ok q)⟩
def zwv(K:PySem.W.Frag)(t:GTS):TS:=λE σ H=>∃H₀ σD Gn,DOk K H₀ H σD σ/\t Gn σD/\(∀σ' H' σD',DOk K H₀ H' σD' σ'->Pers H H'->Gn.nx σD'->E.nx σ' H')/\(∀v H' σ' σD' d,DOk K H₀ H' σD' σ'->Rep K H' d v->Gn.rt d σD'->E.rt v H') /\
 (∀σ' H' σD',DOk K H₀ H' σD' σ'->Pers H H'->Gn.bk σD'->E.bk σ' H')/\∀σ' H' σD',DOk K H₀ H' σD' σ'->Pers H H'->Gn.ct σD'->E.ct σ' H'
theorem DGSs.ps(h:DGSs X sts t):PSs X sts (zwv X.K t):=λpins s σ H E I ⟨H₀,σD,Gn,ok,q,k1,k2,k3,k4⟩=>thn (h.run pins s σ H H₀ σD Gn I ok q) λf s' z=>by
 cases f with
 |next=>obtain⟨a,b,e1,c,e2,e3,e4⟩:=z;exact⟨a,b,e1,k1 a b c e2 e3 e4⟩
 |brk=>obtain⟨a,b,e1,c,e2,e3,e4⟩:=z;exact⟨a,b,e1,k3 a b c e2 e3 e4⟩
 |cont=>obtain⟨a,b,e1,c,e2,e3,e4⟩:=z;exact⟨a,b,e1,k4 a b c e2 e3 e4⟩
 |ret u=>obtain⟨v,a,b,e1,e2,σ',σD',d,e3,e4,e5⟩:=z;exact⟨v,a,b,e1,e2,k2 v b σ' σD' d e3 e4 e5⟩
end
abbrev zlq:=DSt->(List W->List W->Prop)->Prop
structure DPG(X:Cx)(i:Nat)(es:List Expr)(t:zlq):Prop where
 run:∀(pos:Pos) (pins:List (Addr×Obj)) (s:Shared) (σ:St) (H H₀:Hp) (σD:DSt) (Q:List W->List W->Prop),Inv X pins σ H s->DOk X.K H₀ H σD σ->t σD Q ->
  wpAny (model X.prog X.w) X.A (spliced (backTo pos (starEach es X.env))) (λus s'=>∃vp v vq H' wp wq,Inv X pins σ H' s'/\Vals (vp++v::vq) us/\Same H H'/\σ[i]?=some (some v)/\RepWs X.K H' wp vp/\RepWs X.K H' wq vq/\Q wp wq) X.xe s
section
variable {X:Cx}{e:Expr}{es:List Expr}{k k' i j:Nat}{x:Str}{ps:List Str}{sp:zlp}{t:zlq}{p pos:Pos}
end
section
variable {P:Program}{w:World}{K:PySem.W.Frag}{mg:Str->Option Value}{base:Heap}
end
section
variable {X:Cx}{e ie:Expr}{pos:Pos}{te ta:DTE}{t1 t2:DTF}
end
section
variable {X:Cx}{a b:Expr}{rest:List Expr}{pos:Pos}
end
section
variable {K:PySem.W.Frag}{H:Hp}
end
section
variable {X:Cx}{e:Expr}{es:List Expr}{te:DTE}{t:DTP}{pos:Pos}{c f m x:Str}{C g:Addr}{i j k k':Nat}{fd:FuncData}{ps:List Str}{sp:zlp}
end
section
variable {X:Cx}{e:Expr}{pos:Pos}{i j:Nat}{sp:zlp}{t:zlq}{a b:List Stmt}{ta tb:DTS}
end
section
variable {X:Cx}{tg e:Expr}{te:DTE}
end
section
variable {X:Cx}{e:Expr}{te:DTE}{pos p2:Pos}{lo hi:Option Expr}{tl th:DTO}
end
section
variable {X:Cx}
variable {o e:Expr}{to te:DTE}{apos cpos:Pos}{name:Str}{id:String}{gV:Str->Str->V}{gD:Str->Str->D}
end
open PySem.Builtin PySem.Builtin.Str
section
variable {X:Cx}
variable {o e:Expr}{to te:DTE}{apos cpos:Pos}
end
end L2
namespace L2
open PySem PySem.Spec PyProof.Rows
open PySem.Builtin PySem.Builtin.Str
section
variable {X:Cx}
end
end L2
namespace L2
open PySem PySem.Spec PyProof.Rows
section
variable {X:Cx}
end
section
variable {X:Cx}{e:Expr}{te:DTE}{pos tpos px py ps:Pos}{k i j:Nat}{x y:Str}
end
theorem cut_eq{c:Nat}:∀{x y u v:List Nat},c∉x->c∉y->x++c::u=y++c::v->x=y/\u=v
 |[],[],u,v,_,_,h=>⟨rfl,(List.cons.inj h).2⟩
 |[],b::y,u,v,_,hy,h=>absurd (List.cons.inj h).1 (λz=>hy (by rw[z];exact List.mem_cons_self))
 |a::x,[],u,v,hx,_,h=>absurd (List.cons.inj h).1 (λz=>hx (by rw[<-z];exact List.mem_cons_self))
 |a::x,b::y,u,v,hx,hy,h=>by
  have e1:a=b:=(List.cons.inj h).1;have e2:x++c::u=y++c::v:=(List.cons.inj h).2;obtain⟨h1,h2⟩:=cut_eq (λz=>hx (List.mem_cons_of_mem _ z)) (λz=>hy (List.mem_cons_of_mem _ z)) e2;exact⟨by rw[e1,h1],h2⟩
end L2
namespace L2
open PySem PySem.Spec PyProof.Rows PySem.NumText
structure zxb(x:Str):Prop where
 dig:∀c∈x.cps.toList,48<=c/\c<=57
 ne:x.cps.toList ≠ []
 le:x.length<=10
 hd:x=Str.ofString "0" \/ x.cps.toList.head?≠some 48
end L2
namespace L2
open PySem PySem.Spec PyProof.Rows
section
variable {X:Cx}{e:Expr}{es:List Expr}
end
section
variable {X:Cx}{k v e f:Expr}{tk tv te tf:DTE}{apos cpos dpos:Pos}
end
section
variable {X:Cx}{k e f:Expr}{tk te tf:DTE}{p1 pos pos':Pos}
end
def MxAt(K:PySem.W.Frag)(H:Hp)(bs:List Addr)(u:V):Mx->Prop
 |.v d=>Rep K H d u
 |.l xs=>∃b vs,u=.ref b/\b∈bs/\H b=some (.lst vs)/\Reps K H xs vs
section
variable {K:PySem.W.Frag}{H H':Hp}
theorem MxAt.more{bs cs:List Addr}{u:V}{m:Mx}(h:MxAt K H bs u m)(k:∀b∈bs,b∈cs):MxAt K H cs u m:=by
 cases m with
 |v d=>exact h
 |l xs=>obtain⟨b,vs,e1,e2,e3⟩:=h;exact⟨b,vs,e1,k b e2,e3⟩
theorem MxR.at:∀{ms:List Mx}{us:List V}{bs:List Addr}{k:Nat}{m:Mx},MxR K H ms us bs->ms[k]?=some m->∃u,us[k]?=some u/\MxAt K H bs u m
 |[],_,_,k,m,_,e=>by simp at e
 |.v d::ms,u::us,bs,0,m,h,e=>by cases e;exact⟨u,rfl,h.1⟩
 |.v d::ms,u::us,bs,k+1,m,h,e=>by
  obtain⟨w,e1,r⟩:=MxR.at (k:=k) h.2 (by simpa using e);exact⟨w,by simpa using e1,r⟩
 |.l xs::ms,u::us,b::bs,0,m,h,e=>by
  cases e;obtain⟨e0,⟨vs,e1,r⟩,_⟩:=h;exact⟨u,rfl,b,vs,e0,List.mem_cons_self,e1,r⟩
 |.l xs::ms,u::us,b::bs,k+1,m,h,e=>by
  obtain⟨w,e1,r⟩:=MxR.at (k:=k) h.2.2 (by simpa using e);exact⟨w,by simpa using e1,r.more λc hc=>List.mem_cons_of_mem _ hc⟩
end
section
variable {X:Cx}{e ie:Expr}{te ti:DTE}{tf:DTF}{pos:Pos}
end
section
variable {X:Cx}{tg iter elt:Expr}{ifs:List Expr}{scope:Scope}{cl:List (Str×Addr)}{N' capt:List Str}{k:Nat}{js is:List Nat}{ti:DTF}{g:DTG}{tt:DTT}{tf:DTF}{pos:Pos}
end
end L2
namespace SV
open PySem
def Ris(xs:Array Nat):Prop:=xs.toList.Pairwise (· < ·)
theorem Ris.lt{xs:Array Nat}(h:Ris xs){i j:Nat}(hij:i<j)(hj:j<xs.size):xs.getD i 0<xs.getD j 0:=by
 have:=List.pairwise_iff_getElem.mp h i j (by simpa using Nat.lt_trans hij hj) (by simpa using hj) hij;simpa[Array.getD,hj,Nat.lt_trans hij hj]using this
structure Bel(xs:Array Nat)(j b:Nat):Prop where
 le:b<=xs.size
 lo:∀i,i<b->xs.getD i 0<j
 hi:∀i,b<=i->i<xs.size->j<=xs.getD i 0
theorem zhc{xs:Array Nat}{i:Nat}(h:i<xs.size)(d e:Nat):xs.getD i d=xs.getD i e:=by simp[Array.getD,h]
theorem zi1{xs:Array Nat}(h:Ris xs)(j:Nat):∀(fuel lo hi:Nat),hi-lo<=fuel->lo<=hi->hi<=xs.size->(∀i,i<lo->xs.getD i 0<j)->(∀i,hi<=i->i<xs.size->j<=xs.getD i 0)->Bel xs j (SetTable.below.go xs j fuel lo hi)
 |0,lo,hi,hf,hl,hs,h1,h2=>by
  have:lo=hi:=by omega
  subst this;exact⟨hs,h1,h2⟩
 |fuel+1,lo,hi,hf,hl,hs,h1,h2=>by
  unfold SetTable.below.go
  split
  ·next c=>
   dsimp only;have hm:(lo+hi) / 2<hi:=by omega
   have hm':(lo+hi) / 2<xs.size:=by omega
   by_cases c2:xs.getD ((lo+hi) / 2) j<j
   ·rw[if_pos c2];rw[zhc hm' j 0]at c2;refine zi1 h j fuel ((lo+hi) / 2+1) hi (by omega) (by omega) hs (λi hi'=>?_) h2
    by_cases e:i=(lo+hi) / 2
    ·rw[e];exact c2
    ·exact Nat.lt_trans (h.lt (by omega) hm') c2
   ·rw[if_neg c2];rw[zhc hm' j 0]at c2;refine zi1 h j fuel lo ((lo+hi) / 2) (by omega) (by omega) (by omega) h1 (λi hi' his=>?_)
    by_cases e:i=(lo+hi) / 2
    ·rw[e];omega
    ·have:=h.lt (i:=(lo+hi) / 2) (j:=i) (by omega) his;omega
  ·next c=>
   have:lo=hi:=by omega
   subst this;exact⟨hs,h1,h2⟩
theorem zbp{xs:Array Nat}(h:Ris xs)(j:Nat):Bel xs j (SetTable.below xs j) :=
 zi1 h j xs.size 0 xs.size (by omega) (Nat.zero_le _) (Nat.le_refl _) (λi hi=>absurd hi (Nat.not_lt_zero _)) λi h1 h2=>by omega
theorem mem_getD{xs:Array Nat}{x:Nat}(h:x∈xs.toList):∃i,i<xs.size/\xs.getD i 0=x:=by
 obtain⟨i,hi,e⟩:=List.getElem_of_mem h;have hi':i<xs.size:=by simpa using hi
 exact⟨i,hi',by simpa[Array.getD,hi']using e⟩
def Not(xs:Array Nat)(j:Nat):Prop:=xs[SetTable.below xs j]?≠some j
theorem Not.nmem{xs:Array Nat}(h:Ris xs){j:Nat}(n:Not xs j):j∉xs.toList:=λhm=>by
 obtain⟨i,hi,e⟩:=mem_getD hm;have b:=zbp h j;have h1:¬ i<SetTable.below xs j:=λc=>by have:=b.lo i c;omega
 have h2:¬ SetTable.below xs j<i:=λc=>by
  have:=h.lt c hi;have:=b.hi _ (Nat.le_refl _) (by omega);omega
 have e2:i=SetTable.below xs j:=by omega
 subst e2;refine n ?_;simp[Array.getD,hi]at e;rw[Array.getElem?_eq_getElem hi,e]
theorem zhd{α:Type}(xs:Array α)(p:Nat)(x:α)(hp:p<=xs.size):(SetTable.insertAt xs p x).toList=xs.toList.take p++x::xs.toList.drop p:=by
 unfold SetTable.insertAt;simp[List.take_of_length_le]
theorem zpv{xs:Array Nat}(h:Ris xs){j:Nat}(n:Not xs j):Ris (SetTable.insertAt xs (SetTable.below xs j) j):=by
 have b:=zbp h j;have nm:=n.nmem h;unfold Ris;rw[zhd _ _ _ b.le];have ht:∀x∈xs.toList.take (SetTable.below xs j),x<j:=λx hx=>by
  obtain⟨i,hi,e⟩:=List.getElem_of_mem hx;rw[List.length_take]at hi;rw[List.getElem_take]at e;have his:i<xs.size:=by simp at hi;omega
  have:=b.lo i (by omega);simp[Array.getD,his]at this;rw[<-e];simpa using this
 have hd:∀x∈xs.toList.drop (SetTable.below xs j),j<x:=λx hx=>by
  have hmem:=List.mem_of_mem_drop hx;obtain⟨i,hi,e⟩:=List.getElem_of_mem hx;rw[List.length_drop]at hi;rw[List.getElem_drop]at e;have his:SetTable.below xs j+i<xs.size:=by simp at hi;omega
  have h3:=b.hi (SetTable.below xs j+i) (by omega) his;simp[Array.getD,his]at h3;simp at e;have:j≠x:=λz=>nm (z ▸ hmem);omega
 refine List.pairwise_append.mpr ⟨h.sublist (List.take_sublist _ _),List.pairwise_cons.mpr ⟨hd,h.sublist (List.drop_sublist _ _)⟩,λa ha c hc=>?_⟩;have h1:=ht a ha;rcases List.mem_cons.mp hc with rfl|hc
 ·exact h1
 ·exact Nat.lt_trans h1 (hd c hc)
theorem zhe{t:SetTable}{j:Nat}(h:∀i,t.slot j ≠ .live i):Not t.place j:=λe=>by
 refine h (SetTable.below t.place j) ?_;unfold SetTable.slot;simp[e]
theorem zbq{t:SetTable}{f:Nat->Int}{h:Int}:∀(fuel:Nat) (p:SetTable.Probe),(∀d,p.dummy=some d->Not t.place d)->∀j dm,SetTable.probe.go t f h fuel p=some (.empty j dm)->Not t.place j/\∀d,dm=some d->Not t.place d
 |0,p,hp,j,dm,e=>by cases e
 |fuel+1,p,hp,j,dm,e=>by
  unfold SetTable.probe.go at e
  split at e
  ·next c=>
   cases e;exact⟨zhe (λi z=>by rw[c]at z;cases z),hp⟩
  ·next c=>
   refine zbq fuel _ ?_ j dm e;intro d hd;have:p.j=d:=by
    unfold SetTable.advance at hd
    split at hd
    ·exact Option.some.inj hd
    ·exact Option.some.inj hd
   subst this;exact zhe λi z=>by rw[c]at z;cases z
  ·next i c=>
   split at e
   ·cases e
   ·refine zbq fuel _ ?_ j dm e;intro d hd;refine hp d ?_;unfold SetTable.advance at hd
    split at hd <;> exact hd
theorem zno{t:SetTable}{h:Int}{j:Nat}{b:Bool}(e:t.freeSlot h=some (j,b)):Not t.place j:=by
 unfold SetTable.freeSlot at e
 split at e
 ·next j' dm c=>
  obtain⟨h1,h2⟩:=zbq _ _ (λd hd=>by cases hd) _ _ c;simp only[Option.some.injEq,Prod.mk.injEq]at e;obtain⟨e1,_⟩:=e
  cases dm with
  |none=>simp at e1;subst e1;exact h1
  |some d=>simp at e1;subst e1;exact h2 _ rfl
 ·cases e
theorem jq(t:SetTable)(n:Nat):Ris (t.standIn n).place:=by
 unfold Ris SetTable.standIn;simp only[Array.toList_range];exact List.pairwise_lt_range
theorem zto{t:SetTable}(h:Ris t.place)(n:Nat):Ris (t.orStandIn n).place/\(t.orStandIn n).led=t.led:=by
 unfold SetTable.orStandIn
 split
 ·exact⟨h,rfl⟩
 ·exact⟨jq _ _,rfl⟩
theorem zpw{t:SetTable}(h:Ris t.place)(es:Array (Int×Value))(hh:Int)(x:Value):Ris (layNew t es hh x).2.1.place/\(layNew t es hh x).2.1.led=t.led:=by
 unfold layNew
 split
 ·next slot wd e=>
  have r:=zpv h (zno e);exact zto (t:=(t.put slot).1) r _
 ·exact⟨jq _ _,rfl⟩
theorem znp{mask f m:Nat}{led pl:Bool}{hs:Array Int}{t':SetTable}{o:Array Nat}(e:SetTable.laid mask f m led pl hs=some (t',o)):Ris t'.place/\t'.led=led:=by
 unfold SetTable.laid at e
 cases ho:SetTable.layClean mask hs with
 |none=>rw[ho]at e;cases e
 |some owner=>
  rw[ho]at e;simp only[Option.bind_eq_bind,Option.bind_some,Option.pure_def,Option.some.injEq,Prod.mk.injEq]at e;obtain⟨e1,_⟩:=e;subst e1;refine⟨?_,rfl⟩;unfold Ris;simp only[];rw[List.map_filterMap];refine List.Pairwise.filterMap _ (λa a' haa b hb b' hb'=>?_) List.pairwise_lt_range;simp only[Option.map_eq_some_iff]at hb hb';obtain⟨_,⟨_,_,rfl⟩,rfl⟩:=hb;obtain⟨_,⟨_,_,rfl⟩,rfl⟩:=hb';exact haa
theorem zlr{t:SetTable}(es:Array (Int×Value))(wanted:Nat):Ris (relayAll t es wanted).2.1.place/\(relayAll t es wanted).2.1.led=t.led:=by
 unfold relayAll
 split
 ·next t' o e=>
  dsimp only
  split
  ·exact znp e
  ·exact⟨jq _ _,rfl⟩
 ·exact⟨jq _ _,rfl⟩
end SV
namespace SV
open PySem
def Tb(w:World)(t:SetTable):Prop:=Ris t.place/\t.led = !w.params.followText "set-order"
theorem Tb.lay{w:World}{t:SetTable}(h:Tb w t)(es:Array (Int×Value))(hh:Int)(x:Value):Tb w (layNew t es hh x).2.1:=by
 obtain⟨h1,h2⟩:=zpw h.1 es hh x;exact⟨h1,h2.trans h.2⟩
theorem Tb.relay{w:World}{t:SetTable}(h:Tb w t)(es:Array (Int×Value))(n:Nat):Tb w (relayAll t es n).2.1:=by
 obtain⟨h1,h2⟩:=zlr (t:=t) es n;exact⟨h1,h2.trans h.2⟩
end SV
namespace PySem
section
variable {prog:Program}{w:World}{K:Type}[DecidableEq K](knd:KeyKind prog w K)
def Heap.SetV(h:Heap)(a:Addr)(S:K->Bool)(n:Nat):Prop :=
 ∃o es ep t,h.get? a=some o/\o.ExactSet/\o.data=.set es ep t/\ElemsOf knd es.toList/\(∀k,S k=true↔∃e∈es.toList,knd.is k e.2=true)
  /\ es.size<scanBound/\t.fits es.size=true/\es.size=n/\SV.Tb w t
variable {knd}
variable {A:Around}{E:Value->Shared->Prop}{s:Shared}
theorem zi2{h:Heap}{a:Addr}{S S':K->Bool}{n n':Nat}(hS:h.SetV knd a S n)(e:∀k,S k=S' k)(en:n=n'):h.SetV knd a S' n':=by
 have:S=S':=funext e;subst this;subst en;exact hS
theorem zaq{h:Heap}{a:Addr}{o:Obj}{es:Array (Int×Value)}{ep:Nat}{t:SetTable}(ho:h.get? a=some o)(hex:o.ExactSet)(hd:o.data=.set es ep t)
  {es':Array (Int×Value)}{t':SetTable}{S':K->Bool} (hel:ElemsOf knd es'.toList) (hmem:∀k,S' k=true↔∃e∈es'.toList,knd.is k e.2=true) (hb:es'.size<scanBound) (hf:t'.fits es'.size=true) (hx:SV.Tb w t') :
  (h.update a (Obj.putSet es' t')).get? a=some { o with data:=.set es' (ep+1) t' }/\(h.update a (Obj.putSet es' t')).SetV knd a S' es'.size:=by
 have hg:(h.update a (Obj.putSet es' t')).get? a=some { o with data:=.set es' (ep+1) t' }:=by
  have:=Heap.get?_update_self (Obj.putSet es' t') ho (by rw[putSet_of es' t' hd];rfl);rw[putSet_of es' t' hd]at this;exact this
 exact⟨hg,_,es',ep+1,t',hg,hex,rfl,hel,hmem,hb,hf,rfl,hx⟩
theorem je{g:Bool->Sem Unit}(hg:∀(b:Bool) (s₁:Shared) (Q':Unit->Shared->Prop),Q' () s₁->wpAny (model prog w) A (g b) Q' E s₁)
  {a:Addr}{o:Obj}{es:Array (Int×Value)}{ep:Nat}{t:SetTable} (ho:s.heap.get? a=some o) (hex:o.ExactSet) (hd:o.data=.set es ep t)
  {es1:Array (Int×Value)}{t2:SetTable}{S':K->Bool} (hel1:ElemsOf knd es1.toList) (hmem1:∀k',S' k'=true↔∃e∈es1.toList,knd.is k' e.2=true)
  (hb1:es1.size<scanBound) (hf2:t2.fits es1.size=true) (hx2:SV.Tb w t2) {wasDummy:Bool}{R:Option Bool->Shared->Prop}
  (h:∀h',Heap.SameBut a s.heap h'->h'.SetV knd a S' es1.size->R (some true) { s with heap:=h' }) :
  wpAny (model prog w) A (do
    storeSet a es1 t2
    if (!wasDummy && t2.tooFull)=true then do
      g (relayAll t2 es1 (SetTable.grown es1.size)).2.2
      storeSet a (relayAll t2 es1 (SetTable.grown es1.size)).1 (relayAll t2 es1 (SetTable.grown es1.size)).2.1
      pure (some true)
     else pure (some true)) R E s:=by
 refine wpAny_bind (wpAny_storeSet_of ho hd ?_ (fits_of_scanBound hb1));obtain⟨ho1,hS1⟩:=zaq (knd:=knd) ho hex hd hel1 hmem1 hb1 hf2 hx2;have hsb1:=Heap.SameBut.update s.heap a (Obj.putSet es1 t2)
 split
 ·
  have hp:=relayAll_perm t2 es1 (SetTable.grown es1.size);have hfr:=relayAll_fits t2 es1 (SetTable.grown es1.size);have hxr:SV.Tb w (relayAll t2 es1 (SetTable.grown es1.size)).2.1:=hx2.relay es1 _;generalize hRl:relayAll t2 es1 (SetTable.grown es1.size)=Rl at hp hfr hxr ⊢;obtain⟨es2,t3,gave2⟩:=Rl;dsimp only at hp hfr hxr ⊢;have hel2:ElemsOf knd es2.toList:=hel1.perm hp;have hmem2:∀k',S' k'=true↔∃e∈es2.toList,knd.is k' e.2=true:=λk'=>(hmem1 k').trans ⟨λ⟨e,he,q⟩=>⟨e,hp.mem_iff.mpr he,q⟩,λ⟨e,he,q⟩=>⟨e,hp.mem_iff.mp he,q⟩⟩;have hsz:es2.size=es1.size:=by rw[<-Array.length_toList,hp.length_eq,Array.length_toList]
  have hb2:es2.size<scanBound:=by rw[hsz];exact hb1
  refine wpAny_bind (hg _ _ _ ?_);refine wpAny_bind (wpAny_storeSet_of ho1 rfl ?_ (fits_of_scanBound hb2));obtain⟨_,hS2⟩:=zaq (knd:=knd) ho1 hex rfl hel2 hmem2 hb2 hfr hxr;rw[hsz]at hS2;exact wpAny_pure (h _ (hsb1.trans (Heap.SameBut.update _ a _)) hS2)
 ·exact wpAny_pure (h _ hsb1 hS1)
theorem kj{a:Addr}{S:K->Bool}{n:Nat}{k:K}{x:Value}{Q:Bool->Shared->Prop}(hkey:knd.is k x=true)(hsc:x.scannable=true)(hS:s.heap.SetV knd a S n)
  (hroom:n+1<scanBound)
  (h:∀h',Heap.SameBut a s.heap h'->h'.SetV knd a (λk'=>S k' || decide (k'=k)) (if S k then n else n+1)->Q (!S k) { s with heap:=h' }) :
  wpAny (model prog w) A (setAddHashed a x (knd.hash k)) Q E s:=by
 obtain⟨o,es,ep,t,ho,hex,hd,hel,hmem,hb,hf,hn,hx⟩:=hS;have hb1:es.size+1<scanBound:=by rw[hn];exact hroom
 unfold setAddHashed setAddHashedIn;refine wpAny_holding (wpAny_bind (wpAny_setState_of ho hd hf ?_));dsimp only;rw[byScan_of hsc hb hel];simp only[↓reduceIte];unfold setAddByScan;refine wpAny_bind ?_;refine wpAny_bind (wpAny_rule ?_);refine wpAny_bind (wpAny_setScan_of hkey ho hd hf hel ?_)
 cases hr:List.findIdx? (λe=>knd.is k e.2) es.toList with
 |some j=>
  dsimp only;obtain⟨hj,hpj,_⟩:=List.findIdx?_eq_some_iff_getElem.mp hr;have hSk:S k=true:=(hmem k).mpr ⟨es.toList[j],List.getElem_mem hj,hpj⟩;refine wpAny_pure (wpAny_pure ?_);have e:s = { s with heap:=s.heap }:=by cases s;rfl
  have:=h s.heap (Heap.SameBut.refl a s.heap) ⟨o,es,ep,t,ho,hex,hd,hel,λk'=>by
   rw[Bool.or_eq_true,decide_eq_true_eq,<-hmem k'];exact⟨λhk=>hk.elim id (λe=>e ▸ hSk),.inl⟩,hb,hf,by rw[hSk];exact hn,hx⟩
  rw[hSk]at this;rw[e];exact this
 |none=>
  dsimp only;have hSk:S k=false:=by
   cases hk:S k with
   |false=>rfl
   |true=>obtain⟨e,he,hp⟩:=(hmem k).mp hk;have:=List.findIdx?_eq_none_iff.mp hr e he;rw[hp]at this;exact Bool.noConfusion this
  have hgw:∀(b:Bool) {s₁:Shared}{Q':Unit->Shared->Prop},Q' () s₁->wpAny (model prog w) A (match b with|true=>rule "set.scan.the-table-gave-way" |false=>pure ()) Q' E s₁ :=
   λb s₁ Q' hq=>by cases b <;> first|exact wpAny_pure hq|exact wpAny_rule hq
  have hperm:=layNew_perm t es (knd.hash k) x;have hfits:=layNew_fits t es (knd.hash k) x;have hxl:SV.Tb w (layNew t es (knd.hash k) x).2.1:=hx.lay es _ x;generalize hL:layNew t es (knd.hash k) x=L at hperm hfits hxl ⊢;obtain⟨es1,t1,wasDummy,gave⟩:=L;dsimp only at hperm hfits hxl ⊢;rw[Array.toList_push]at hperm;have hel1:ElemsOf knd es1.toList:=(hel.push hkey hsc).perm hperm;have hmem1:∀k',(S k' || decide (k'=k))=true↔∃e∈es1.toList,knd.is k' e.2=true:=mem_push_iff hkey hmem hperm;have hb1':es1.size<scanBound:=by rw[<-Array.length_toList,hperm.length_eq,List.length_append,Array.length_toList];simpa using hb1
  refine wpAny_bind (hgw _ ?_);have hsz1:es1.size=n+1:=by rw[<-Array.length_toList,hperm.length_eq,List.length_append,Array.length_toList,hn];rfl
  have hend:∀h',Heap.SameBut a s.heap h'->h'.SetV knd a (λk'=>S k' || decide (k'=k)) es1.size->Q true { s with heap:=h' }:=by
   intro h' hsb hS';have:=h h' hsb;rw[hSk]at this;rw[hsz1]at hS';exact this hS'
  split
  ·refine wpAny_bind ?_;rw[hashByValue_scannable 8 hsc];refine wpAny_pure ?_;refine je ?_ ho hex hd hel1 hmem1 hb1' ?_ ?_ ?_
   ·intro b s₁ Q' hq;cases b <;> first|exact wpAny_pure hq|exact wpAny_rule hq
   ·split
    ·exact hfits
    ·exact SetTable.fits_plain_off hfits
   ·split
    ·exact hxl
    ·exact⟨hxl.1,hxl.2⟩
   ·intro h' hsb hS';dsimp only;exact wpAny_pure (hend h' hsb hS')
  ·refine wpAny_bind (wpAny_pure ?_);simp only[↓reduceIte];refine je ?_ ho hex hd hel1 hmem1 hb1' hfits hxl ?_
   ·intro b s₁ Q' hq;cases b <;> first|exact wpAny_pure hq|exact wpAny_rule hq
   ·intro h' hsb hS';dsimp only;exact wpAny_pure (hend h' hsb hS')
end
section
open PyProof.Rows
variable {prog:Program}{w:World}{A:Around}{R:Result->Shared->Prop}{I:Addr}{fp wr:List Addr}{G:Array GenState->Array GenState->Prop}{n:Nat}{P:Nat->Value->Prop}{St:Nat->Shared->Prop}
theorem qa(W:WalksS prog w A.in1 I fp wr G n P St)(S:Addr)(hSf:S∉fp)
  (val:Nat->Int) (hval:∀i v,P i v->∃t,v=.int (val i) t) (hb:n+1<scanBound) :
  ∀(k i:Nat) (s:Shared),n-i=k->i<=n->St i s ->
   s.heap.SetV (intKind prog w) S (λk'=>(firstMet val i).any (· == k')) (firstMet val i).length ->
   (∀s',Moved (S::wr) G s s'->s'.heap.SetV (intKind prog w) S (λk'=>(firstMet val n).any (· == k')) (firstMet val n).length->R (.ok (.ret .none)) s') ->
   codeAny (model prog w) A (.builtin "set.update.loop" ⟨[.ref S,.ref I],[]⟩) R s:=by
 have hSw:S∉wr:=λh=>hSf (W.sub _ h);have hsub:∀b∈wr,b∈S::wr:=λb hb=>List.mem_cons_of_mem _ hb;intro k
 induction k with
 |zero=>
  intro i s hk hi hst hS hR;have hin:i=n:=by omega
  subst hin;refine codeAny_builtin PyProof.Rows.F.entry_set_update_loop ?_;rw[Around.under_plainId PyProof.Rows.F.plain_set_update_loop _];show wpAny _ A.in1 (pyNext (.ref I) >>= _) _ _ s;refine wpAny_bind (W.done s _ _ hst λs' hm=>?_);show wpAny _ A.in1 (ret Value.none) _ _ s';exact wpAny_pure (hR s' (hm.mono hsub) (by
   obtain⟨o,es,ep,t,ho,rest⟩:=hS;exact⟨o,es,ep,t,hm.heap S _ hSw ho,rest⟩))
 |succ k ih=>
  intro i s hk hi hst hS hR;have hlt:i<n:=by omega
  refine codeAny_builtin PyProof.Rows.F.entry_set_update_loop ?_;rw[Around.under_plainId PyProof.Rows.F.plain_set_update_loop _];show wpAny _ A.in1 (pyNext (.ref I) >>= _) _ _ s;refine wpAny_bind (W.item i s _ _ hlt hst λv s' hP hst' hm=>?_);obtain⟨t,rfl⟩:=hval i v hP;have hS':s'.heap.SetV (intKind prog w) S (λk'=>(firstMet val i).any (· == k')) (firstMet val i).length:=by
   obtain⟨o,es,ep,tb,ho,rest⟩:=hS;exact⟨o,es,ep,tb,hm.heap S _ hSw ho,rest⟩
  show wpAny _ A.in1 (holding [Value.int (val i) t] (setAdd S (.int (val i) t)) >>= _) _ _ s';refine wpAny_bind (wpAny_holding ?_);unfold setAdd;refine wpAny_holding ?_;refine wpAny_bind ((intKind prog w).pyHash (k:=val i) (intKind_is _ _ _ _) ?_);have hroom:(firstMet val i).length+1<scanBound:=by have:=firstMet_length_le val i;omega
  refine kj (knd:=intKind prog w) (s:={ s' with toks:=s'.toks+1 }) (intKind_is _ _ _ _) rfl hS' hroom λh' hsb hS2=>?_;have hSi:h'.SetV (intKind prog w) S (λk'=>(firstMet val (i+1)).any (· == k')) (firstMet val (i+1)).length :=
   zi2 hS2 (λk'=>by rw[firstMet_succ,step_any]) (by rw[firstMet_succ,step_length])
  refine wpAny_pure ⟨plainId_quiet PyProof.Rows.F.plain_set_update_loop _,ih (i+1) _ (by omega) hlt (W.frame _ s' _ _ hst' (Nat.le_succ _) λb hb o e=>?_) hSi λs'' hm'' hS''=>?_⟩
  ·rw[hsb.2 b (λh:b=S=>hSf (by rw[<-h];exact hb))];exact e
  ·refine hR s'' (Moved.trans W.gtrans ((hm.mono hsub).then_heap (Nat.le_succ _) λb o hb e=>?_) hm'') hS'';rw[hsb.2 b (λh:b=S=>hb (by rw[h];exact List.mem_cons_self))];exact e
end
section
variable {prog:Program}{w:World}{A:Around}{E:Value->Shared->Prop}{s:Shared}
theorem zb9(a:Value){Q₁:Value->Shared->Prop}
  (h:Q₁ (.ref s.heap.objs.size) { s with heap:=s.heap.push { cls:=.type "set",dict:=none,data:=.set #[] 0 (.fresh 0 0 (!w.params.followText "set-order")) } }) :
  codeAny (model prog w) A (.call (.builtin "set.__new__") ⟨[.type "set",a],[]⟩) (wants Q₁ E) s:=by
 refine codeAny_of_tree ?_;show wpAny _ A.in1 (do checkBuiltinCall "set.__new__" ⟨[.type "set",a],[]⟩;again (.builtin "set.__new__" ⟨[.type "set",a],[]⟩)) _ _ s;refine wpAny_bind (wpAny_of_eq (F.newCall_set_1 a) (wpAny_pure ⟨plainId_quiet F.plain_set_new _,codeAny_builtin F.entry_set_new ?_⟩));rw[Around.under_plainId F.plain_set_new _];unfold Builtin.«set.__new__» Builtin.Frozenset.newClass;have hsub:=sub_set_self;obtain⟨hp,g,d,tk,os⟩:=s;dsimp only
 wp_walk
 refine wpAny_askSetting (wpAny_pure ?_);dsimp only;simp only[newObj];refine wpAny_bind (wpAny_alloc (wpAny_pure ?_));exact wpAny_pure h
end
end PySem
namespace PySem
namespace F
theorem slot_set_iterator_next:Slot "set_iterator" "__next__" "set_iterator.__next__" :=
 .of (owner := "set_iterator") (n := "__next__") (by rw[typeLookup_type,builtinLookup_eq_fast];kernel_rfl) (by decide +kernel) (by decide +kernel) (by decide +kernel)
  (by first|exact .inl (by decide +kernel)|exact .inr (by decide +kernel)) (by rw[isSubtype_type];kernel_rfl)
theorem entry_set_iterator_next:entryFor table "set_iterator.__next__" = some Builtin.«set_iterator.__next__»:=entryFor_of_tree (by kernel_rfl)
theorem args_set_iterator_next_1(a:Value):argsOk "set_iterator.__next__" ⟨[a],[]⟩:=by
 unfold argsOk;kernel_rfl
theorem entry_set_iter:entryFor table "set.__iter__" = some Builtin.«frozenset.__iter__» :=
 entryFor_alias (id' := "frozenset.__iter__") (by kernel_rfl) rfl (by decide +kernel) (by kernel_rfl)
theorem slot_set_iterator_iter:Slot "set_iterator" "__iter__" "set_iterator.__iter__" :=
 .of (owner := "set_iterator") (n := "__iter__") (by rw[typeLookup_type,builtinLookup_eq_fast];kernel_rfl) (by decide +kernel) (by decide +kernel) (by decide +kernel)
  (by first|exact .inl (by decide +kernel)|exact .inr (by decide +kernel)) (by rw[isSubtype_type];kernel_rfl)
theorem entry_set_iterator_iter:entryFor table "set_iterator.__iter__" = some Builtin.«dict_keyiterator.__iter__» :=
 entryFor_alias (id' := "dict_keyiterator.__iter__") (by kernel_rfl) (by first|rfl|decide +kernel |(unfold String.splitOn;simp +decide [String.splitOnAux])) (by decide +kernel) (by kernel_rfl)
theorem args_set_iterator_iter_1(a:Value):argsOk "set_iterator.__iter__" ⟨[a],[]⟩:=by
 unfold argsOk;kernel_rfl
end F
section
variable {prog:Program}{w:World}{A:Around}{E:Value->Shared->Prop}{s:Shared}{a:Addr}{o:Obj}{es:Array (Int×Value)}{ep:Nat}{t:SetTable}
theorem qx{slot given then_:Nat}{Q:Option (Value×Nat)->Shared->Prop}(ho:s.heap.get? a=some o)(hd:o.data=.set es ep t)(hf:t.fits es.size=true)(hT:w.params.followText "set-order" = false)(hp:(!t.plain && decide (es.size > 1))=false)(hl:t.led=true)
  (h:Q (match es[SetTable.below t.place slot]?,t.place[SetTable.below t.place slot]? with|some (_,x),some j=>some (x,j+1)|_,_=>none) s):wpAny (model prog w) A (setNext a slot given then_) Q E s:=by
 unfold setNext;refine wpAny_bind (wpAny_setState_of ho hd hf ?_);dsimp only;unfold setsByText;refine wpAny_bind (wpAny_bind (wpAny_askSetting (wpAny_pure ?_)));refine wpAny_ite_split (λhab=>absurd (show w.params.followText "set-order" = true from hab) (by rw[hT];decide)) (λ_=>?_);refine wpAny_ite_split (λhab=>absurd (show(!t.plain && decide (es.size > 1))=true from hab) (by rw[hp];decide)) (λ_=>?_);refine wpAny_bind ?_;show wpAny _ _ (if (!t.led && !es.isEmpty)=true then unsupported _ else pure ()) _ _ _;rw[hl];exact wpAny_pure (wpAny_pure h)
theorem ku{slot given then_:Nat}{Q:Option (Value×Nat)->Shared->Prop}(ho:s.heap.get? a=some o)(hd:o.data=.set es ep t)(hf:t.fits es.size=true)(hT:w.params.followText "set-order" = true)(he:then_=ep)
  (h:Q (((pickOrder (w.params.setOrder a ep) es)[given]?).map λe=>(e.2,slot)) s):wpAny (model prog w) A (setNext a slot given then_) Q E s:=by
 unfold setNext;refine wpAny_bind (wpAny_setState_of ho hd hf ?_);dsimp only;unfold setsByText;refine wpAny_bind (wpAny_bind (wpAny_askSetting (wpAny_pure ?_)));refine wpAny_ite_split (λ_=>?_) (λhab=>absurd (show w.params.followText "set-order" = true from hT) hab);refine wpAny_ite_split (λhab=>absurd hab (by rw[he];simp)) (λ_=>?_);refine wpAny_bind ?_;unfold setWalk;refine wpAny_bind (wpAny_setState_of ho hd hf ?_);dsimp only;unfold setsByText;refine wpAny_bind (wpAny_bind (wpAny_askSetting (wpAny_pure ?_)));refine wpAny_ite_split (λ_=>?_) (λhab=>absurd (show w.params.followText "set-order" = true from hT) hab);exact wpAny_bind (wpAny_askSetting (wpAny_pure (wpAny_pure h)))
end
end PySem
namespace PySem
section
variable {prog:Program}{w:World}{A:Around}{E:Value->Shared->Prop}{s:Shared}{a:Addr}{o:Obj}{es:Array (Int×Value)}{ep:Nat}{t:SetTable}
def IsSI(h:Heap)(I:Addr)(fs:Array Value):Prop:=∃u,h.get? I=some u/\u.cls=.type "set_iterator" /\ u.data=.fields fs
theorem IsSI.ty{I:Addr}{fs:Array Value}(h:IsSI s.heap I fs):s.TypeIs (.ref I) "set_iterator" := let ⟨u,hu,hc,_⟩:=h;⟨u,hu,hc⟩
theorem zkg{I:Addr}{i slot nx:Nat}{x:Value}{Q:Option Value->Shared->Prop}(hit:IsSI s.heap I #[rawInt slot,rawInt i,.ref a,rawInt es.size,rawInt ep])(ho:s.heap.get? a=some o)(hd:o.data=.set es ep t)(hf:t.fits es.size=true)
  (hn:∀(A':Around) (E':Value->Shared->Prop) (Q':Option (Value×Nat)->Shared->Prop),Q' (some (x,nx)) s->wpAny (model prog w) A' (setNext a slot i ep) Q' E' s)
  (hQ:∀h',IsSI h' I #[rawInt nx,rawInt (i+1:Nat),.ref a,rawInt es.size,rawInt ep]->Heap.SameBut I s.heap h'->Q (some x) { s with heap:=h' }):wpAny (model prog w) A (pyNext (.ref I)) Q E s:=by
 obtain⟨u,hu,hc,hdu⟩:=id hit;unfold pyNext;refine wpAny_bind (wpAny_attempt (wpAny_callSpecial?_slot (name:=Str.ofString "__next__") hit.ty F.slot_set_iterator_next
  (wpAny_call_entry F.slot_set_iterator_next hit.ty F.entry_set_iterator_next ?_ (F.args_set_iterator_next_1 _))))
 show wpAny _ _ (fieldsOf (.ref I) >>= _) _ _ s;refine wpAny_bind (wpAny_fieldsOf hu hdu ?_);show wpAny _ _ (setEntries a >>= _) _ _ s;refine wpAny_bind (wpAny_setEntries_of ho hd hf ?_);refine wpAny_ite_split (λhab=>absurd hab (by simp[rawInt])) (λ_=>?_);show wpAny _ _ (setNext a ((slot:Int).toNat) ((i:Int).toNat) ((ep:Int).toNat) >>= _) _ _ s;simp only[Int.toNat_natCast];refine wpAny_bind (hn _ _ _ ?_);dsimp only;refine wpAny_bind (wpAny_setField hu hdu (by simp) ?_);have h1:=Heap.get?_update_self (Obj.mapFields λv=>v.setIfInBounds 0 (rawInt (nx:Int))) hu (Obj.isFreed_of_fields (Obj.data_mapFields hdu _));refine wpAny_bind (wpAny_setField h1 (Obj.data_mapFields hdu _) (by simp) ?_);refine wpAny_pure ⟨x,rfl,wpAny_pure (hQ _ ?_ ((Heap.SameBut.update ..).trans (Heap.SameBut.update ..)))⟩;refine⟨_,Heap.get?_update_self _ h1 (Obj.isFreed_of_fields (Obj.data_mapFields (Obj.data_mapFields hdu _) _)),(Obj.cls_mapFields ..).trans ((Obj.cls_mapFields ..).trans hc),?_⟩;rw[Obj.data_mapFields (Obj.data_mapFields hdu _)];simp[rawInt]
theorem zkh{I:Addr}{fs:Array Value}{u:Obj}{Q:Option Value->Shared->Prop}(hh:A.handled=none)(hu:s.heap.get? I=some u)(hdu:u.data=.fields fs)(hs:2<fs.size)
  (hQ:∀h',Heap.ExtBut I s.heap h'->Q none { s with heap:=h' }) :
  wpAny (model prog w) A.in1 (do setField (.ref I) 2 .none;raiseNew (<-newExc (.type "StopIteration") []):Sem Fin) (λfin s'=>∃v,fin=Fin.done (Flow.ret v)/\wpAny (model prog w) A (pure (some v)) Q E s')
  (λe s'=>wpAny (model prog w) A (do if <-isInstance e (Value.type "StopIteration") then pure none else throw e) Q E s') s:=by
 refine wpAny_bind (wpAny_setField hu hdu hs ?_);show wpAny _ _ (newExc (.type "StopIteration") [] >>= _) _ _ _;refine wpAny_bind ?_;simp only[newExc,newTuple];refine wpAny_bind (wpAny_newObj_type ?_ (by size_fits));refine wpAny_bind (m:=firstArgMember _ _) (wpAny_of_eq (a:=Value.none) (by first|rfl |(simp only[firstArgMember];rfl)) ?_);refine wpAny_newObj_type ?_ (by size_fits);simp only[raiseNew];refine wpAny_bind (wpAny_handled ?_)
 first|rw[show A.in1.handled=none from hh]|rw[hh]
 refine wpAny_bind (wpAny_pure (wpAny_throw ?_));refine wpAny_bind (wpAny_isInstance (T := "StopIteration") (b:=true) ⟨_,Heap.get?_push_size _ rfl,rfl⟩ isSubtype_stop ?_);exact wpAny_pure (hQ _ (((Heap.SameBut.update ..).extBut.push _).push _))
theorem zki{I:Addr}{i slot:Nat}{Q:Option Value->Shared->Prop}(hh:A.handled=none)(hit:IsSI s.heap I #[rawInt slot,rawInt i,.ref a,rawInt es.size,rawInt ep])(ho:s.heap.get? a=some o)(hd:o.data=.set es ep t)(hf:t.fits es.size=true)
  (hn:∀(A':Around) (E':Value->Shared->Prop) (Q':Option (Value×Nat)->Shared->Prop),Q' none s->wpAny (model prog w) A' (setNext a slot i ep) Q' E' s)
  (hQ:∀h',Heap.ExtBut I s.heap h'->Q none { s with heap:=h' }):wpAny (model prog w) A (pyNext (.ref I)) Q E s:=by
 obtain⟨u,hu,hc,hdu⟩:=id hit;unfold pyNext;refine wpAny_bind (wpAny_attempt (wpAny_callSpecial?_slot (name:=Str.ofString "__next__") hit.ty F.slot_set_iterator_next
  (wpAny_call_entry F.slot_set_iterator_next hit.ty F.entry_set_iterator_next ?_ (F.args_set_iterator_next_1 _))))
 show wpAny _ _ (fieldsOf (.ref I) >>= _) _ _ s;refine wpAny_bind (wpAny_fieldsOf hu hdu ?_);show wpAny _ _ (setEntries a >>= _) _ _ s;refine wpAny_bind (wpAny_setEntries_of ho hd hf ?_);refine wpAny_ite_split (λhab=>absurd hab (by simp[rawInt])) (λ_=>?_);show wpAny _ _ (setNext a ((slot:Int).toNat) ((i:Int).toNat) ((ep:Int).toNat) >>= _) _ _ s;simp only[Int.toNat_natCast];refine wpAny_bind (hn _ _ _ ?_);exact zkh hh hu hdu (by simp) hQ
theorem zpx{I tp:Addr}{i p:Nat}{ps:Array Value}{e:Int×Value}{Q:Option Value->Shared->Prop}(hit:IsSI s.heap I #[.ref tp,rawInt i,.ref a,rawInt es.size,rawInt ep])(ht:s.heap.IsTuple tp ps)(hp:ps[i]?=some (rawInt p))(he:es[p]?=some e)
  (ho:s.heap.get? a=some o) (hd:o.data=.set es ep t) (hf:t.fits es.size=true)
  (hQ:∀h',IsSI h' I #[.ref tp,rawInt (i+1:Nat),.ref a,rawInt es.size,rawInt ep]->Heap.SameBut I s.heap h'->Q (some e.2) { s with heap:=h' }):wpAny (model prog w) A (pyNext (.ref I)) Q E s:=by
 obtain⟨u,hu,hc,hdu⟩:=id hit;obtain⟨ot,hot,_,nt,hdt⟩:=ht;unfold pyNext;refine wpAny_bind (wpAny_attempt (wpAny_callSpecial?_slot (name:=Str.ofString "__next__") hit.ty F.slot_set_iterator_next
  (wpAny_call_entry F.slot_set_iterator_next hit.ty F.entry_set_iterator_next ?_ (F.args_set_iterator_next_1 _))))
 show wpAny _ _ (fieldsOf (.ref I) >>= _) _ _ s;refine wpAny_bind (wpAny_fieldsOf hu hdu ?_);show wpAny _ _ (setEntries a >>= _) _ _ s;refine wpAny_bind (wpAny_setEntries_of ho hd hf ?_);refine wpAny_ite_split (λhab=>absurd hab (by simp[rawInt])) (λ_=>?_);show wpAny _ _ (seqItems? (.ref tp) >>= _) _ _ s;refine wpAny_bind (wpAny_seqItems hot hdt ?_);simp only[Int.toNat_natCast,hp,rawInt];unfold setNextDrawn;refine wpAny_bind (wpAny_bind (wpAny_setState_of ho hd hf ?_));refine wpAny_ite_split (λhab=>absurd hab (by simp)) (λ_=>?_);simp only[he];refine wpAny_pure ?_;refine wpAny_bind (wpAny_setField hu hdu (by simp) (wpAny_pure ⟨e.2,rfl,wpAny_pure (hQ _ ?_ (Heap.SameBut.update ..))⟩));exact⟨_,Heap.get?_update_self _ hu (Obj.isFreed_of_fields (Obj.data_mapFields hdu _)),(Obj.cls_mapFields ..).trans hc,by
  rw[Obj.data_mapFields hdu];simp[rawInt]⟩
theorem zpy{I tp:Addr}{i:Nat}{ps:Array Value}{Q:Option Value->Shared->Prop}(hh:A.handled=none)(hit:IsSI s.heap I #[.ref tp,rawInt i,.ref a,rawInt es.size,rawInt ep])(ht:s.heap.IsTuple tp ps)(hp:ps[i]?=none)
  (ho:s.heap.get? a=some o) (hd:o.data=.set es ep t) (hf:t.fits es.size=true)
  (hQ:∀h',Heap.ExtBut I s.heap h'->Q none { s with heap:=h' }):wpAny (model prog w) A (pyNext (.ref I)) Q E s:=by
 obtain⟨u,hu,hc,hdu⟩:=id hit;obtain⟨ot,hot,_,nt,hdt⟩:=ht;unfold pyNext;refine wpAny_bind (wpAny_attempt (wpAny_callSpecial?_slot (name:=Str.ofString "__next__") hit.ty F.slot_set_iterator_next
  (wpAny_call_entry F.slot_set_iterator_next hit.ty F.entry_set_iterator_next ?_ (F.args_set_iterator_next_1 _))))
 show wpAny _ _ (fieldsOf (.ref I) >>= _) _ _ s;refine wpAny_bind (wpAny_fieldsOf hu hdu ?_);show wpAny _ _ (setEntries a >>= _) _ _ s;refine wpAny_bind (wpAny_setEntries_of ho hd hf ?_);refine wpAny_ite_split (λhab=>absurd hab (by simp[rawInt])) (λ_=>?_);show wpAny _ _ (seqItems? (.ref tp) >>= _) _ _ s;refine wpAny_bind (wpAny_seqItems hot hdt ?_);simp only[Int.toNat_natCast,hp];have h1:=Heap.get?_update_self (Obj.mapFields λv=>v.setIfInBounds 0 (rawInt 0)) hu (Obj.isFreed_of_fields (Obj.data_mapFields hdu _));refine wpAny_bind (wpAny_setField hu hdu (by simp) ?_);exact zkh (s:={ s with heap:=s.heap.update I (Obj.mapFields λv=>v.setIfInBounds 0 (rawInt 0)) }) hh h1 (Obj.data_mapFields hdu _) (by simp) λh' he=>hQ h' λb o hb e=>he b o hb ((Heap.SameBut.update ..).extBut b o hb e)
theorem vg{I:Addr}{fs:Array Value}{Q:Value->Shared->Prop}(hit:IsSI s.heap I fs)(h:Q (.ref I) s):wpAny (model prog w) A (pyIter (.ref I)) Q E s:=by
 refine wpAny_pyIter_slot hit.ty F.slot_set_iterator_iter (wpAny_call_entry F.slot_set_iterator_iter hit.ty F.entry_set_iterator_iter ?_ (F.args_set_iterator_iter_1 _));show wpAny _ _ (ret (.ref I)) _ _ s;exact wpAny_pure ⟨_,rfl, "set_iterator",_,hit.ty,F.slot_set_iterator_next.lookup,h⟩
theorem zad{α:Type}:∀{xs:List α}{i:Nat} (h:i<xs.length),(xs[i]::xs.eraseIdx i).Perm xs
 |x::xs,0,h=>by simp
 |x::xs,i+1,h=>by
  have:=zad (xs:=xs) (i:=i) (by simpa using h);simp only[List.getElem_cons_succ,List.eraseIdx_cons_succ];exact(List.Perm.swap _ _ _).trans (this.cons x)
theorem zi3{src:Source}{n:Nat}{Q:Nat->Shared->Prop}(hn:n≠0)(h:∀i d',i<n->Q i { s with drawn:=d' }):wpAny (model prog w) A (choose src n) Q E s:=λ_ _ _=>⟨hn,h _ _ (Nat.mod_lt _ (Nat.pos_of_ne_zero hn))⟩
theorem zar{α:Type}:∀(n:Nat) (xs:List α) (s:Shared) (Q:List α->Shared->Prop),n=xs.length->(∀ys d',ys.Perm xs->Q ys { s with drawn:=d' })->wpAny (model prog w) A (drawOrder n xs) Q E s
 |0,xs,s,Q,hn,h=>by
  cases xs with
  |nil=>unfold drawOrder;exact wpAny_pure (h [] s.drawn (List.Perm.refl _))
  |cons x xs=>cases hn
 |n+1,[],s,Q,hn,h=>by cases hn
 |n+1,x::xs,s,Q,hn,h=>by
  unfold drawOrder;refine wpAny_bind (zi3 (by simp) λi d' hi=>?_);rw[List.getElem?_eq_getElem hi];dsimp only;refine wpAny_bind (zar n _ _ _ (by rw[List.length_eraseIdx_of_lt hi];simp at hn;simp[hn]) λys d2 p=>wpAny_pure (h _ d2 ?_));exact(p.cons _).trans (zad hi)
def zas(f:Value)(a:Addr)(n ep:Nat):Obj:={ cls:=.type "set_iterator",data:=.fields #[f,rawInt 0,.ref a,rawInt n,rawInt ep] }
theorem zbr{Q:Value->Shared->Prop}(ho:s.heap.get? a=some o)(hex:o.ExactSet)(hd:o.data=.set es ep t)(hf:t.fits es.size=true)(hz:es.size<=sizeLine)
  (hA:w.params.followText "set-order" = true\/(w.params.followText "set-order" = false/\(!t.plain && decide (es.size > 1))=false)->Q (.ref s.heap.objs.size) { s with heap:=s.heap.push (zas (rawInt 0) a es.size ep) })
  (hB:∀(ys:List Nat) d',ys.Perm (List.range es.size)->Q (.ref (s.heap.objs.size+1)) { s with heap:=(s.heap.push { cls:=.type "tuple",data:=.seq (ys.map λi:Nat=>rawInt i).toArray }).push (zas (.ref s.heap.objs.size) a es.size ep),drawn:=d' }):wpAny (model prog w) A (pyIter (.ref a)) Q E s:=by
 have hT:s.TypeIs (.ref a) "set" :=⟨o,ho,hex.1⟩
 refine wpAny_pyIter_slot hT F.slot_set_iter (wpAny_call_entry F.slot_set_iter hT F.entry_set_iter ?_ (F.args_set_iter_1 _));unfold Builtin.«frozenset.__iter__»;refine wpAny_bind (m:=Builtin.Frozenset.slot0 _ _) (wpAny_of_eq (a:=a) rfl ?_);unfold Builtin.Frozenset.sizeOf;refine wpAny_bind (wpAny_bind (wpAny_setEntries_of ho hd hf (wpAny_pure ?_)));unfold setDrawn setsByText;refine wpAny_bind (wpAny_bind (wpAny_setState_of ho hd hf ?_));refine wpAny_bind (wpAny_bind (wpAny_askSetting (wpAny_pure ?_)));refine wpAny_pure ?_;dsimp only;refine wpAny_ite_split (λhab=>?_) (λhab=>?_)
 ·refine wpAny_bind (zar _ _ _ _ (by simp) λys d' p=>?_);refine wpAny_bind (wpAny_newTuple ?_ (by rw[List.length_map,p.length_eq,List.length_range];exact hz));have ho1:(s.heap.push { cls:=.type "tuple",data:=.seq (ys.map λi:Nat=>rawInt i).toArray }).get? a=some o:=Heap.get?_push_of_some _ ho;unfold setEpoch;refine wpAny_bind (wpAny_bind (wpAny_setState_of ho1 hd hf (wpAny_pure ?_)));refine wpAny_bind (wpAny_newObj_type (wpAny_pure ⟨_,rfl, "set_iterator",_,⟨_,Heap.get?_push_size _ rfl,rfl⟩,F.slot_set_iterator_next.lookup,?_⟩));have:=hB ys d' p;rw[show(s.heap.push { cls:=.type "tuple",data:=.seq (ys.map λi:Nat=>rawInt i).toArray }).objs.size=s.heap.objs.size+1 from Heap.size_push ..];exact this
 ·refine wpAny_bind (wpAny_pure ?_);unfold setEpoch;refine wpAny_bind (wpAny_bind (wpAny_setState_of ho hd hf (wpAny_pure ?_)));refine wpAny_bind (wpAny_newObj_type (wpAny_pure ⟨_,rfl, "set_iterator",_,⟨_,Heap.get?_push_size _ rfl,rfl⟩,F.slot_set_iterator_next.lookup,?_⟩));refine hA ?_
  cases hb:w.params.followText "set-order" with
  |true=>exact .inl rfl
  |false=>
   refine .inr ⟨rfl,?_⟩;have h2:¬ ((!(w.params.followText "set-order")) && (!t.plain && decide (es.size > 1)))=true:=hab;rw[hb]at h2;simpa using h2
end
end PySem
namespace SV
open PySem
def sl(t:SetTable)(i:Nat):Nat:=if i=0 then 0 else t.place.getD (i-1) 0+1
theorem bel_sl{t:SetTable}(h:Ris t.place){i:Nat}(hi:i<=t.place.size):SetTable.below t.place (sl t i)=i:=by
 have b:=zbp h (sl t i);have h1:¬ SetTable.below t.place (sl t i)<i:=λc=>by
  have h2:=b.hi _ (Nat.le_refl _) (by omega);unfold sl at h2;rw[if_neg (by omega)]at h2
  by_cases e:SetTable.below t.place (sl t i)=i-1
  ·unfold sl at e;rw[if_neg (by omega)]at e;rw[e]at h2;omega
  ·have h3:=h.lt (i:=SetTable.below t.place (sl t i)) (j:=i-1) (by omega) (by omega);unfold sl at h3;rw[if_neg (by omega)]at h3;omega
 have h4:¬ i<SetTable.below t.place (sl t i):=λc=>by
  have h2:=b.lo i c;have hs:i<t.place.size:=by have:=b.le;omega
  unfold sl at h2
  by_cases z:i=0
  ·rw[if_pos z]at h2;omega
  ·rw[if_neg z]at h2;have h3:=h.lt (i:=i-1) (j:=i) (by omega) hs;omega
 omega
theorem zkj{α:Type}{next:Nat->Nat}:∀(fuel k:Nat) (left:List α) (out:Array α),fuel=left.length->(pickOrder.go next fuel k left out).toList.Perm (out.toList++left)
 |0,k,left,out,h=>by
  cases left with
  |nil=>simp[pickOrder.go]
  |cons x l=>cases h
 |fuel+1,k,left,out,h=>by
  have hi:next k % left.length<left.length:=Nat.mod_lt _ (by omega);unfold pickOrder.go;rw[List.getElem?_eq_getElem hi];dsimp only;refine(zkj fuel (k+1) _ _ (by rw[List.length_eraseIdx_of_lt hi];omega)).trans ?_;rw[Array.toList_push,List.append_assoc];exact List.Perm.append_left _ (zad hi)
theorem pick_perm{α:Type}(next:Nat->Nat)(xs:Array α):(pickOrder next xs).toList.Perm xs.toList:=by
 have:=zkj (next:=next) xs.size 0 xs.toList #[] (by simp);simpa[pickOrder]using this
end SV
namespace PySem
section
variable {prog:Program}{w:World}{A:Around}{E:Value->Shared->Prop}{s:Shared}{a:Addr}{o:Obj}{es:Array (Int×Value)}{ep:Nat}{t:SetTable}
theorem IsSI.at{h h':Heap}{I:Addr}{fs:Array Value}(x:IsSI h I fs)(e:∀o,h.get? I=some o->h'.get? I=some o):IsSI h' I fs:=let ⟨u,hu,r⟩:=x;⟨u,e _ hu,r⟩
theorem zhf(hh:A.handled=none)(I:Addr)(hne:a≠I)(hd:o.data=.set es ep t)(hf:t.fits es.size=true)(tb:SV.Tb w t)(hT:w.params.followText "set-order" = false)(hp:(!t.plain && decide (es.size > 1))=false):
  Walks prog w A I [I,a] [I] es.size (λi v=>(es.toList.map (·.2))[i]?=some v) (λi h=>i<=es.size/\IsSI h I #[rawInt (SV.sl t i),rawInt i,.ref a,rawInt es.size,rawInt ep]/\h.get? a=some o):=by
 have hs:t.place.size=es.size:=by
  simp only[SetTable.fits,Bool.and_eq_true,beq_iff_eq]at hf;exact hf.1
 have hl:t.led=true:=by rw[tb.2,hT];rfl
 exact{
  sub:=λb hb=>by simp at hb;simp[hb]
  frame:=λ_ _ _ st hk=>⟨st.1,st.2.1.at λo e=>hk I (by simp) o e,hk a (by simp) _ st.2.2⟩
  item:=λi s Q E hi st hQ=>by
   have e0:SetTable.below t.place (SV.sl t i)=i:=SV.bel_sl tb.1 (by omega);have hx:es[i]?=some es[i]:=by simp[hi]
   have hy:t.place[i]?=some (t.place[i]'(by omega)):=by simp[hs,hi]
   refine zkg (x:=es[i].2) (nx:=SV.sl t (i+1)) st.2.1 st.2.2 hd hf (λA' E' Q' q=>qx st.2.2 hd hf hT hp hl ?_) λh' hit' hs'=>?_
   ·rw[e0,hx,hy];have:SV.sl t (i+1)=(t.place[i]'(by omega))+1:=by simp[SV.sl,Array.getD,hs,hi]
    rw[this]at q;exact q
   ·exact hQ _ h' s.toks (by simp[hi]) ⟨by omega,hit',hs'.extBut a _ hne st.2.2⟩ λb o hb e=>hs'.extBut b o (λh=>hb (by simp[h])) e
  done:=λs Q E st hQ=>by
   have e0:SetTable.below t.place (SV.sl t es.size)=es.size:=SV.bel_sl tb.1 (by omega);refine zki hh st.2.1 st.2.2 hd hf (λA' E' Q' q=>qx st.2.2 hd hf hT hp hl ?_) λh' he'=>hQ h' s.toks λb o hb e=>he' b o (λh=>hb (by simp[h])) e;rw[e0];simpa using q
  self:=λ_ _ _ _ st hQ=>vg st.2.1 hQ }
theorem zi4(hh:A.handled=none)(I:Addr)(hne:a≠I)(hd:o.data=.set es ep t)(hf:t.fits es.size=true)(hT:w.params.followText "set-order" = true):
  Walks prog w A I [I,a] [I] es.size (λi v=>((pickOrder (w.params.setOrder a ep) es).toList.map (·.2))[i]?=some v) (λi h=>IsSI h I #[rawInt 0,rawInt i,.ref a,rawInt es.size,rawInt ep]/\h.get? a=some o):=by
 have hs:(pickOrder (w.params.setOrder a ep) es).size=es.size:=by
  have:=(SV.pick_perm (w.params.setOrder a ep) es).length_eq;simpa using this
 exact{
  sub:=λb hb=>by simp at hb;simp[hb]
  frame:=λ_ _ _ st hk=>⟨st.1.at λo e=>hk I (by simp) o e,hk a (by simp) _ st.2⟩
  item:=λi s Q E hi st hQ=>by
   have hx:(pickOrder (w.params.setOrder a ep) es)[i]?=some ((pickOrder (w.params.setOrder a ep) es)[i]'(by omega)):=by simp[hs,hi]
   refine zkg (slot:=0) (nx:=0) (x:=((pickOrder (w.params.setOrder a ep) es)[i]'(by omega)).2) st.1 st.2 hd hf (λA' E' Q' q=>ku st.2 hd hf hT rfl ?_) λh' hit' hs'=>?_
   ·rw[hx];exact q
   ·exact hQ _ h' s.toks (by simp[hs,hi]) ⟨hit',hs'.extBut a _ hne st.2⟩ λb o hb e=>hs'.extBut b o (λh=>hb (by simp[h])) e
  done:=λs Q E st hQ=>by
   refine zki (slot:=0) hh st.1 st.2 hd hf (λA' E' Q' q=>ku st.2 hd hf hT rfl ?_) λh' he'=>hQ h' s.toks λb o hb e=>he' b o (λh=>hb (by simp[h])) e;rw[Array.getElem?_eq_none (by omega)];exact q
  self:=λ_ _ _ _ st hQ=>vg st.1 hQ }
theorem zhg(hh:A.handled=none)(I tp:Addr)(hne:a≠I)(hnt:tp≠I)(hd:o.data=.set es ep t)(hf:t.fits es.size=true){ys:List Nat}(hp:ys.Perm (List.range es.size)):
  Walks prog w A I [I,a,tp] [I] es.size (λi v=>((ys.filterMap (es[·]?)).map (·.2))[i]?=some v) (λi h=>IsSI h I #[.ref tp,rawInt i,.ref a,rawInt es.size,rawInt ep]/\h.get? a=some o/\h.IsTuple tp (ys.map λi:Nat=>rawInt i).toArray):=by
 have hl:ys.length=es.size:=by rw[hp.length_eq,List.length_range]
 have hm:∀i (hi:i<ys.length),ys[i] < es.size:=λi hi=>List.mem_range.mp (hp.mem_iff.mp (List.getElem_mem hi));have hfm:∀(zs:List Nat),(∀z∈zs,z<es.size)->∀i (hi:i<zs.length),(zs.filterMap (es[·]?))[i]?=es[zs[i]]?:=λzs=>by
  induction zs with
  |nil=>intro _ i hi;simp at hi
  |cons z zs ih=>
   intro h i hi;have hz:=h z List.mem_cons_self;rw[List.filterMap_cons_some (b:=es[z]) (by simp[hz])]
   cases i with
   |zero=>simp[hz]
   |succ i=>
    have:=ih (λy hy=>h y (List.mem_cons_of_mem _ hy)) i (by simpa using hi);simpa using this
 have hall:∀z∈ys,z<es.size:=λz hz=>List.mem_range.mp (hp.mem_iff.mp hz);exact{
  sub:=λb hb=>by simp at hb;simp[hb]
  frame:=λ_ _ _ st hk=>⟨st.1.at λo e=>hk I (by simp) o e,hk a (by simp) _ st.2.1,st.2.2.at λo e=>hk tp (by simp) o e⟩
  item:=λi s Q E hi st hQ=>by
   have hi':i<ys.length:=by omega
   have hx:es[ys[i]]?=some (es[ys[i]]'(hm i hi')):=by simp[hm i hi']
   refine zpx (p:=ys[i]) (e:=es[ys[i]]'(hm i hi')) st.1 st.2.2 (by simp[hi']) hx st.2.1 hd hf λh' hit' hs'=>?_;refine hQ _ h' s.toks ?_ ⟨hit',hs'.extBut a _ hne st.2.1,st.2.2.extBut hs'.extBut hnt⟩ λb o hb e=>hs'.extBut b o (λh=>hb (by simp[h])) e;rw[List.getElem?_map,hfm ys hall i hi',hx];rfl
  done:=λs Q E st hQ=>zpy hh st.1 st.2.2 (by simp;omega) st.2.1 hd hf λh' he'=>hQ h' s.toks λb o hb e=>he' b o (λh=>hb (by simp[h])) e
  self:=λ_ _ _ _ st hQ=>vg st.1 hQ }
end
end PySem
namespace SV
open PySem
theorem zdd{ord:List Value}{n:Nat}(hl:ord.length=n){acc:Array Value}(h:ItemsOf (λi v=>ord[i]?=some v) acc n):acc.toList=ord:=by
 obtain⟨h1,h2⟩:=h;refine List.ext_getElem? λi=>?_
 by_cases c:i<acc.size
 ·have e:acc[i]?=some acc[i]:=by simp[c]
  rw[h2 i _ e];simp[c]
 ·rw[List.getElem?_eq_none (by simp;omega),List.getElem?_eq_none (by omega)]
section
variable {prog:Program}{w:World}{A:Around}{E:Value->Shared->Prop}{s:Shared}{a:Addr}{o:Obj}{es:Array (Int×Value)}{ep:Nat}{t:SetTable}
theorem zi5(hh:A.handled=none)(ho:s.heap.get? a=some o)(hex:o.ExactSet)(hd:o.data=.set es ep t)(hf:t.fits es.size=true)(tb:Tb w t)(hz:es.size<=sizeLine):
  wpAny (model prog w) A (pyIter (.ref a)) (λv s'=>∃(I:Addr) (h':Heap) (d':_) (fp:List Addr) (P:Nat->Value->Prop) (St:Nat->Heap->Prop),v=.ref I/\s' = { s with heap:=h',drawn:=d' }/\(∀b o,s.heap.get? b=some o->h'.get? b=some o)/\s.heap.objs.size<=I
   /\ Walks prog w A I fp [I] es.size P St/\St 0 h'/\(∀b∈fp,b=a\/s.heap.objs.size<=b)/\∀acc,ItemsOf P acc es.size->acc.toList.Perm (es.toList.map (·.2))) E s:=by
 have la:a<s.heap.objs.size:=Heap.lt_size ho;refine zbr ho hex hd hf hz (λc=>?_) (λys d' p=>?_)
 ·have hne:a≠s.heap.objs.size:=Nat.ne_of_lt la;have g1:IsSI (s.heap.push (zas (rawInt 0) a es.size ep)) s.heap.objs.size #[rawInt 0,rawInt 0,.ref a,rawInt es.size,rawInt ep]:=⟨_,Heap.get?_push_size _ rfl,rfl,rfl⟩
  have g2:(s.heap.push (zas (rawInt 0) a es.size ep)).get? a=some o:=Heap.get?_push_of_some _ ho;have k:∀b o,s.heap.get? b=some o->(s.heap.push (zas (rawInt 0) a es.size ep)).get? b=some o:=λb o e=>Heap.get?_push_of_some _ e;have hfp:∀b ∈ [s.heap.objs.size,a],b=a\/s.heap.objs.size<=b:=λb hb=>by
   simp at hb;rcases hb with rfl|rfl
   ·exact .inr (Nat.le_refl _)
   ·exact .inl rfl
  rcases c with hT |⟨hT,hp⟩
  ·refine⟨_,_,s.drawn,_,_,_,rfl,rfl,k,Nat.le_refl _,zi4 hh _ hne hd hf hT,⟨g1,g2⟩,hfp,λacc hacc=>?_⟩;have pm:=SV.pick_perm (w.params.setOrder a ep) es;rw[zdd (by rw[List.length_map,pm.length_eq];simp) hacc];exact pm.map _
  ·refine⟨_,_,s.drawn,_,_,_,rfl,rfl,k,Nat.le_refl _,zhf hh _ hne hd hf tb hT hp,⟨Nat.zero_le _,g1,g2⟩,hfp,λacc hacc=>?_⟩;rw[zdd (by simp) hacc]
 ·have hne:a≠s.heap.objs.size+1:=Nat.ne_of_lt (Nat.lt_succ_of_lt la)
  have g1:((s.heap.push { cls:=.type "tuple",data:=.seq (ys.map λi:Nat=>rawInt i).toArray }).push (zas (.ref s.heap.objs.size) a es.size ep)).get? (s.heap.objs.size+1)=some (zas (.ref s.heap.objs.size) a es.size ep):=by
   rw[show s.heap.objs.size+1=(s.heap.push { cls:=.type "tuple",data:=.seq (ys.map λi:Nat=>rawInt i).toArray }).objs.size from(Heap.size_push ..).symm];exact Heap.get?_push_size _ rfl
  have k:∀b o,s.heap.get? b=some o->((s.heap.push { cls:=.type "tuple",data:=.seq (ys.map λi:Nat=>rawInt i).toArray }).push (zas (.ref s.heap.objs.size) a es.size ep)).get? b=some o:=λb o e=>Heap.get?_push_of_some _ (Heap.get?_push_of_some _ e);have g3:((s.heap.push { cls:=.type "tuple",data:=.seq (ys.map λi:Nat=>rawInt i).toArray }).push (zas (.ref s.heap.objs.size) a es.size ep)).IsTuple s.heap.objs.size (ys.map λi:Nat=>rawInt i).toArray:=⟨_,Heap.get?_push_of_some _ (Heap.get?_push_size _ rfl),rfl,_,rfl⟩
  refine⟨_,_,d',_,_,_,rfl,rfl,k,Nat.le_succ _,zhg hh _ s.heap.objs.size hne (Nat.ne_of_lt (Nat.lt_succ_self _)) hd hf p,⟨⟨_,g1,rfl,rfl⟩,k _ _ ho,g3⟩,λb hb=>?_,λacc hacc=>?_⟩
  ·simp at hb;rcases hb with rfl|rfl|rfl
   ·exact .inr (Nat.le_succ _)
   ·exact .inl rfl
   ·exact .inr (Nat.le_refl _)
  ·have pm:(ys.filterMap (es[·]?)).Perm es.toList:=by
    have h1:=p.filterMap (es[·]?);have h2:=List.filterMap_getElem?_range_length es.toList;simp only[Array.length_toList,Array.getElem?_toList]at h2;rw[h2]at h1;exact h1
   rw[zdd (by rw[List.length_map,pm.length_eq];simp) hacc];exact pm.map _
theorem collect_set{Q:List Value->Shared->Prop}(hh:A.handled=none)(ho:s.heap.get? a=some o)(hex:o.ExactSet)(hd:o.data=.set es ep t)(hf:t.fits es.size=true)(tb:Tb w t)(hz:es.size<=sizeLine)
  (hQ:∀(h':Heap) (d':_) (tk:Nat) (vs:List Value),vs.Perm (es.toList.map (·.2))->(∀b o,s.heap.get? b=some o->h'.get? b=some o)->s.heap.objs.size<h'.objs.size->Q vs { s with heap:=h',drawn:=d',toks:=tk }):wpAny (model prog w) A (collect (.ref a)) Q E s:=by
 have la:a<s.heap.objs.size:=Heap.lt_size ho;have hSI:s.heap.objs.size≠a:=Nat.ne_of_gt la;unfold collect;refine wpAny_bind (wpAny_runValue (codeAny_builtin PySem.F.entry_proto_collect ?_));rw[Around.under_plainId PySem.F.plain_proto_collect _];show wpAny _ A.in1 (newList [] >>= λl=>again (.builtin "list.__iadd__" ⟨[l,.ref a],[]⟩)) _ _ s;refine wpAny_bind (wpAny_newObj_type ?_);refine wpAny_pure ⟨plainId_quiet PySem.F.plain_list_iadd _,codeAny_builtin PySem.F.entry_list_iadd ?_⟩;rw[Around.under_plainId PySem.F.plain_list_iadd _];show wpAny _ A.in1 (Builtin.List.listExtendWith (.ref s.heap.objs.size) (.ref a) (.ref s.heap.objs.size)) _ _ _;unfold Builtin.List.listExtendWith;have ho1:(s.heap.push { cls:=.type "list",data:=.seq ([]:List Value).toArray }).get? a=some o:=Heap.get?_push_of_some _ ho;have hS1:(s.heap.push { cls:=.type "list",data:=.seq ([]:List Value).toArray }).get? s.heap.objs.size=some { cls:=.type "list",data:=.seq ([]:List Value).toArray }:=Heap.get?_push_size _ rfl;refine wpAny_bind (wpAny_typeOf (T := "set") ⟨o,ho1,hex.1⟩ ?_);have h1:Builtin.List.listSameRef (.ref s.heap.objs.size) (.ref a)=false:=by simp[Builtin.List.listSameRef,hSI]
 have h2:(Value.type "set" == Value.type "list")=false:=by decide
 have h3:(Value.type "set" == Value.type "tuple")=false:=by decide
 simp only[h1,h2,h3,Bool.or_false,Bool.false_eq_true,if_false];refine wpAny_bind (wpAny_mono (zi5 (A:=A.in1) hh ho1 hex hd hf tb hz) ?_ λ_ _ e=>e);rintro v s1 ⟨I,h',d',fp,P,St,rfl,rfl,k,hI,W,st,hfp,hacc⟩;rw[Heap.size_push]at hI hfp;have hSf:s.heap.objs.size∉fp:=λhm=>by
  rcases hfp _ hm with e|e
  ·exact hSI e
  ·omega
 have hS2:=k _ _ hS1;refine wpAny_bind (wpAny_holding ?_);unfold Builtin.List.listLengthHint;refine wpAny_bind (wpAny_specialOf (T := "set") ⟨o,k _ _ ho1,hex.1⟩ PySem.F.slot_set_len.lookup ?_);generalize hid:("set.__len__" : String)=id0
 wp_delta
 rw[show splitId id0=some ("set", "__len__") from by subst hid;decide +kernel];subst hid;refine wpAny_bind (wpAny_isInstance (T := "set") (b:=true) ⟨o,k _ _ ho1,hex.1⟩ (by rw[isSubtype_type];kernel_rfl) ?_);refine wpAny_ite_split (λhab=>absurd hab (by decide)) (λ_=>?_);refine wpAny_ite_split (λ_=>?_) (λhab=>absurd (by decide +kernel) hab);refine wpAny_bind (wpAny_typeOf (T := "set") ⟨o,k _ _ ho1,hex.1⟩ ?_);refine wpAny_pure ?_;refine wpAny_ite_split (λ_=>?_) (λhab=>absurd (by decide +kernel) hab);refine wpAny_bind (wpAny_rule ?_);refine wpAny_bind ?_;show wpAny _ A.in1 (updateSeq s.heap.objs.size (·.push .none) >>= λ_=>updateSeq s.heap.objs.size (·.pop)) _ _ _;refine wpAny_bind (wpAny_updateSeq hS2 rfl ?_);have hS3:=Heap.get?_update_self (Obj.mapSeq (·.push Value.none)) hS2 rfl;refine wpAny_updateSeq hS3 rfl ?_;have hS4:=Heap.get?_update_self (Obj.mapSeq (·.pop)) hS3 rfl;have oth:∀b o,b≠s.heap.objs.size->h'.get? b=some o->((h'.update s.heap.objs.size (Obj.mapSeq (·.push Value.none))).update s.heap.objs.size (Obj.mapSeq (·.pop))).get? b=some o :=
  λb o hb e=>(Heap.get?_update_other _ _ (Ne.symm hb)).trans ((Heap.get?_update_other _ _ (Ne.symm hb)).trans e)
 refine wpAny_pure ⟨plainId_quiet PySem.F.plain_extend_loop _,codeAny_extend_loopS W.toS hz _ hSf _ es.size 0 _ _ _ rfl (Nat.zero_le _) (W.frame 0 h' _ st λb hb o e=>oth b o (λh=>hSf (h ▸ hb)) e) hS4 (ItemsOf.nil P) λs' acc' c' hm hS' ha=>?_⟩;show wpAny _ A (load s.heap.objs.size >>= _) _ _ s';refine wpAny_bind (wpAny_load hS' ?_);rw[Moved.eq_with hm];refine wpAny_pure (hQ _ _ _ _ (hacc _ ha) (λb o e=>?_) (Heap.lt_size hS'));have lb:b<s.heap.objs.size:=Heap.lt_size e;refine hm.heap b o (λhmem=>?_) (oth b o (Nat.ne_of_lt lb) (k b o (Heap.get?_push_of_some _ e)));rcases List.mem_cons.mp hmem with e'|hmem
 ·exact absurd e' (Nat.ne_of_lt lb)
 ·have e2:=List.mem_singleton.mp hmem;rw[e2]at lb;exact absurd (Nat.lt_of_lt_of_le (Nat.lt_of_lt_of_le lb (Nat.le_succ _)) hI) (Nat.lt_irrefl _)
end
end SV
namespace SQ
open PySem PyProof.Rows
theorem IntsAre.mk:∀{us:List Value},(∀v∈us,∃n t,v=.int n t)->∃ns,IntsAre us ns
 |[],_=>⟨[],.nil⟩
 |u::us,h=>by
  obtain⟨n,t,rfl⟩:=h u List.mem_cons_self;obtain⟨ns,e⟩:=IntsAre.mk λv hv=>h v (List.mem_cons_of_mem _ hv);exact⟨n::ns,.cons n t e⟩
section
variable {prog:Program}{w:World}{A:Around}{E:Value->Shared->Prop}{s:Shared}{a:Addr}{o:Obj}{es:Array (Int×Value)}{ep:Nat}{t:SetTable}
theorem zls{Q:Value->Shared->Prop}(hh:A.handled=none)(ho:s.heap.get? a=some o)(hex:o.ExactSet)(hd:o.data=.set es ep t)(hf:t.fits es.size=true)(tb:SV.Tb w t)(hz:es.size<=sizeLine)(h64:es.size<64)(hi:∀e∈es.toList,∃n t,e.2=.int n t)
  (h:∀(vs:List Value) (out:Array Keyed) (h':Heap) (d':_) (tk:Nat) (r:Addr) (e:Nat),vs.Perm (es.toList.map (·.2))->out.Perm (pairsOf vs)->SortedToK intK out (pairsOf vs).size->s.heap.objs.size<=r->h'.get? r=some (seqObj "list" (out.map (·.2)) e)->(∀b o,s.heap.get? b=some o->h'.get? b=some o)->Q (.ref r) { s with heap:=h',drawn:=d',toks:=tk }) :
  wpAny (model prog w) A (call (.builtin "sorted") [.ref a]) Q E s:=by
 refine Calls.call_function_entry kind_sorted plain_sorted entry_sorted (args_sorted1 _) ?_;unfold Builtin.«sorted»;refine wpAny_bind (m:=checkCount "sorted" 1 1 _) (wpAny_pure ?_);refine wpAny_bind (SV.collect_set hh ho hex hd hf tb hz λh1 d1 tk vs pv k1 le=>?_);have hl:vs.length=es.size:=by rw[pv.length_eq,List.length_map,Array.length_toList]
 have hiv:∀v∈vs,∃n t,v=.int n t:=λv hv=>by
  obtain⟨e,he,rfl⟩:=List.mem_map.mp (pv.mem_iff.mp hv);exact hi e he
 have hk:∀v∈vs,∃k,intK.keyOf v=some k:=λv hv=>by
  obtain⟨i,t,rfl⟩:=hiv v hv;exact⟨i,rfl⟩
 refine wpAny_bind (wpAny_newList ?_ (by omega));have gL:(h1.push (seqObj "list" vs.toArray 0)).get? h1.objs.size=some (seqObj "list" vs.toArray 0):=Heap.get?_push_size _ rfl;show wpAny _ _ _ _ _ { s with heap:=h1.push (seqObj "list" vs.toArray 0),drawn:=d1,toks:=tk };refine wpAny_bind (wpAny_holding (wpAny_call_entry slot_list_sort ⟨_,gL,rfl⟩ entry_list_sort (zbz (κ:=intK) (kd:=oneType') gL (by omega) (by omega) (λh' _=>zkc) (vn hk) (λh2 h' Q k' q=>?_) λout p1 p2=>⟨_,rfl,?_⟩) (args_list_sort _)))
 ·cases vs with
  |nil=>simp at h2
  |cons u us=>
   cases us with
   |nil=>simp at h2
   |cons u2 us=>
    obtain⟨ns,hn⟩:=IntsAre.mk hiv;rw[keyKind_ints hn];exact wpAny_pure q
 ·refine wpAny_pure ⟨_,rfl,?_⟩;obtain⟨e,he⟩:=sortedHeap_at (n:=0) (out:=out.map (·.2)) gL
  exact h vs out _ d1 tk _ e pv p1 p2 (Nat.le_of_lt le) he λb o z=>by
   have hb:b<h1.objs.size:=Heap.lt_size (k1 b o z);rw[sortedHeap_old (Nat.ne_of_lt hb) (by rw[Heap.size_push];exact Nat.lt_succ_of_lt hb)];exact Heap.get?_push_of_some _ (k1 b o z)
end
end SQ
namespace L2
open PySem PySem.Spec PyProof.Rows SQ
theorem zex:∀{xs ys:List Int},xs.Nodup->(∀x∈xs,x∈ys)->ys.length<=xs.length->ys.Perm xs
 |[],ys,_,_,h=>by
  have:ys = []:=List.length_eq_zero_iff.mp (by simpa using h);subst this;exact .refl _
 |x::xs,ys,hn,hs,h=>by
  obtain⟨h1,h2⟩:=List.nodup_cons.mp hn;have hx:=hs x List.mem_cons_self;have p:=List.perm_cons_erase hx;refine p.trans (List.Perm.cons x (zex h2 (λz hz=>?_) ?_))
  ·exact(List.mem_erase_of_ne (λe=>h1 (by rw[<-e];exact hz))).mpr (hs z (List.mem_cons_of_mem _ hz))
  ·have:=p.length_eq;simp at this h ⊢;omega
theorem qe(val:Nat->Int):∀i,(firstMet val i).Nodup
 |0=>by rw[firstMet_zero];exact List.nodup_nil
 |i+1=>by
  rw[firstMet_succ];unfold step_dedup
  split
  ·exact qe val i
  ·next c=>
   refine List.nodup_append.mpr ⟨qe val i,by simp,λx hx y hy e=>c ?_⟩
   cases List.mem_singleton.mp hy;exact List.any_eq_true.mpr ⟨x,hx,by simp[e]⟩
theorem zfv(val:Nat->Int)(i:Nat)(x:Int):x∈firstMet val i↔x∈(List.range i).map val:=by
 have:=firstMet_any val i x;constructor
 ·intro h;have h1:(firstMet val i).any (· == x)=true:=List.any_eq_true.mpr ⟨x,h,by simp⟩;rw[this]at h1;obtain⟨y,hy,e⟩:=List.any_eq_true.mp h1;rw[<-eq_of_beq e];exact hy
 ·intro h;have h1:((List.range i).map val).any (· == x)=true:=List.any_eq_true.mpr ⟨x,h,by simp⟩;rw[<-this]at h1;obtain⟨y,hy,e⟩:=List.any_eq_true.mp h1;rw[<-eq_of_beq e];exact hy
theorem zi6(ns:List Int):(List.range ns.length).map (λi=>ns.getD i 0)=ns:=by
 refine List.ext_getElem (by simp) λi h1 h2=>?_;simp[h2]
theorem znq{prog:Program}{w:World}{h:Heap}{a:Addr}{ns:List Int}(hS:h.SetV (intKind prog w) a (λk'=>(firstMet (λi=>ns.getD i 0) ns.length).any (· == k')) (firstMet (λi=>ns.getD i 0) ns.length).length):
  ∃o es ep t ks,h.get? a=some o/\o.ExactSet/\o.data=.set es ep t/\t.fits es.size=true/\SV.Tb w t/\es.size<=ns.length/\IntsAre (es.toList.map (·.2)) ks/\ks.Nodup/\∀x,x∈ks↔x∈ns:=by
 obtain⟨o,es,ep,t,ho,hex,hd,hel,hmem,hb,hf,hn,hx⟩:=hS;have hi:∀v∈es.toList.map (·.2),∃n t,v=Value.int n t:=λv hv=>by
  obtain⟨e,he,rfl⟩:=List.mem_map.mp hv;obtain⟨⟨k,hk,_⟩,_⟩:=hel e he;obtain⟨u,e2⟩:=Value.isInt_shape hk;exact⟨k,u,e2⟩
 obtain⟨ks,hks⟩:=IntsAre.mk hi;have mk:∀{us:List Value}{ks:List Int},IntsAre us ks->∀x,x∈ks↔∃t,Value.int x t∈us:=λ{us ks} h=>by
  induction h with
  |nil=>intro x;simp
  |cons n t h ih=>
   intro x;rw[List.mem_cons,ih];constructor
   ·rintro (rfl |⟨u,hu⟩)
    ·exact⟨t,List.mem_cons_self⟩
    ·exact⟨u,List.mem_cons_of_mem _ hu⟩
   ·rintro ⟨u,hu⟩;rcases List.mem_cons.mp hu with e|hu
    ·cases e;exact .inl rfl
    ·exact .inr ⟨u,hu⟩
 have hmm:∀x,x∈ks↔x∈firstMet (λi=>ns.getD i 0) ns.length:=λx=>by
  rw[mk hks x];have h1:=hmem x;constructor
  ·rintro ⟨u,hu⟩;obtain⟨e,he,e2⟩:=List.mem_map.mp hu;have h2:=h1.mpr ⟨e,he,by rw[e2];exact intKind_is _ _ _ _⟩;obtain⟨y,hy,e3⟩:=List.any_eq_true.mp h2;rw[<-eq_of_beq e3];exact hy
  ·intro hx;obtain⟨e,he,hk⟩:=h1.mp (List.any_eq_true.mpr ⟨x,hx,by simp⟩);obtain⟨u,e2⟩:=Value.isInt_shape hk;exact⟨u,List.mem_map.mpr ⟨e,he,e2⟩⟩
 have lk:ks.length=es.size:=by rw[<-IntsAre.length hks,List.length_map,Array.length_toList]
 have pm:ks.Perm (firstMet (λi=>ns.getD i 0) ns.length):=zex (qe _ _) (λx hx=>(hmm x).mpr hx) (by omega);refine⟨o,es,ep,t,ks,ho,hex,hd,hf,hx,?_,hks,pm.nodup_iff.mpr (qe _ _),λx=>?_⟩
 ·rw[hn];exact firstMet_length_le _ _
 ·rw[hmm,zfv,zi6]
section
variable {X:Cx}{a:Expr}{p pos p2 pos2:Pos}
def vI:Value->Int
 |.int n _=>n
 |_=>0
theorem zkk{us:List Value}{ks:List Int}(h:IntsAre us ks):us.map vI=ks:=by
 induction h with
 |nil=>rfl
 |cons n t h ih=>rw[List.map_cons,ih];rfl
theorem zlt{us:List Value}{ks:List Int}(h:IntsAre us ks):Vals (ks.map V.int) us:=by
 induction h with
 |nil=>exact .nil
 |cons n t h ih=>exact .cons ⟨t,rfl⟩ ih
theorem Inv.dr{pins:List (Addr×Obj)}{σ:List (Option V)}{H:Hp}{s:Shared}(I:Inv X pins σ H s)(d:Drawn):Inv X pins σ H { s with drawn:=d }:=⟨I.ok,I.os,I.bare,I.base,I.loc,I.cell,I.free,I.freeC,I.pin,I.hok,I.len⟩
end
end L2
namespace SQ
open PySem PyProof.Rows
section
variable {prog:Program}{w:World}{A:Around}{E:Value->Shared->Prop}{s:Shared}{a:Addr}{o:Obj}{es:Array (Int×Value)}{ep:Nat}{t:SetTable}
end
end SQ
namespace L2
open PySem PySem.Spec PyProof.Rows SQ
section
variable {X:Cx}{a:Expr}{p pos p2 pos2:Pos}
end
end L2
namespace L2
open PySem PySem.Spec PyProof.Rows
theorem zi7{pos:Pos}{a b:Int}{c cv:Value}(l:List Value)(h:TriplesOk l)(e:codeAmong pos (l ++ [rawInt a,rawInt b,c])=some cv):codeAmong pos l=some cv\/cv=c:=by
 fun_induction TriplesOk l with
 |case1=>
  simp only[List.nil_append,codeAmong,rawInt]at e
  split at e
  ·exact .inr (Option.some.inj e).symm
  ·cases e
 |case2 a' t b' u x rest ih=>
  simp only[List.cons_append,codeAmong]at e ⊢
  split at e
  ·rename_i z;rw[if_pos z];exact .inl e
  ·rename_i z;rw[if_neg z];exact ih h e
 |case3 l h1 h2=>exact h.elim
theorem zkl{x y:Value}{more:Array Value}(h : #[x]++more = #[y]):x=y:=by
 have:=congrArg Array.toList h;simp at this;exact this.1
def jf(mg:Str->Option Value)(base:Heap):Prop:=∃bm o,mg "__builtins__" = some (.ref bm)/\bm≠builtinsNs/\base.get? bm=some o/\o.cls=.type "module" /\ o.dict=some builtinsNs/\o.data=.plain
def jx(q:Str)(P:Addr)(H:Hp):Prop:=∃t more,H P=some (.tbl (#[.str q t]++more))
section
variable {X:Cx}{pins:List (Addr×Obj)}{σ:St}{H:Hp}{s:Shared}{P c:Addr}{q:Str}
theorem Inv.tabAt(I:Inv X pins σ H s)(h:jx q P X.H₀):jx q P H:=by
 obtain⟨t,m,e⟩:=h;obtain⟨m2,e2⟩:=I.base.tbls _ _ e;exact⟨t,m++m2,by rw[e2,Array.append_assoc]⟩
theorem Inv.tabOk(I:Inv X pins σ H s)(h:jx q P H):∃ps:Array Value,s.heap.get? P=some { cls:=.none,data:=.fields ps }/\TriplesOk ps.toList /\
  ∀pos cv,codeAmong pos ps.toList=some cv->∃c' oc u,cv=.ref c'/\H c'=some (.frz oc u)/\zjp oc q:=by
 obtain⟨t,m,e⟩:=h;obtain⟨ps,q',t',lab,r1,r2,r3⟩:=(show zgm H s.heap P _ from I.hok P _ e)
 have:=zkl lab
 cases this;exact⟨ps,r1,r2,r3⟩
theorem Inv.bltAt(I:Inv X pins σ H s)(hB:jf X.mg X.base)(hP:H P≠none):s.heap.BuiltinsAt X.mg P:=by
 obtain⟨bm,o,h1,h2,h3,h4,h5,h6⟩:=hB;refine⟨bm,o,h1,h2,λz=>?_,λz=>?_,(I.bs _ _ h3).1,h4,h5,h6⟩
 ·obtain⟨o',es,ep,e,d,_⟩:=I.mod.glob;rw[<-z,h3]at e
  cases e;rw[h6]at d
  cases d
 ·exact hP (z ▸ (I.bs _ _ h3).2)
theorem Inv.globNe(I:Inv X pins σ H s)(hP:H P≠none):mainGlobals≠P:=λz=>by
 obtain⟨o',es,ep,e,d,_⟩:=I.mod.glob;exact hP (z ▸ (I.bs _ _ e).2)
theorem znr{params:Arguments}{body:Expr}{scope:Scope}{pos:Pos}{fl:Nat}{E:Value->Shared->Prop}{Q:Value->Shared->Prop}(I:Inv X pins σ H s)(hT:jx q P H)(C:PySem.W.CodeHd X.base c P)(hcode:X.env.code=.ref c)(hB:jf X.mg X.base)
  (hcl:closureFor scope X.env=pure [])
  (h:∀(f c':Addr) (oc:Obj) (u:HO) (ctv:Value) (H':Hp) (s':Shared),Inv X pins σ H' s'->Same H H'->H' c'=some (.frz oc u)->zjp oc q->s.heap.objs.size<=f->s'.heap.objs.size<=f+1->H' f=none ->
   s'.heap.get? f=some (PySem.W.kla_obj "<lambda>" q params body scope [] ((X.mg "__name__").getD .none) c' ctv)->Q (.ref f) s') :
  wpAny (model X.prog X.w) X.A (makeFunction "<lambda>" q params (.expr body) scope X.env [] [] [] pos fl) Q E s:=by
 obtain⟨ps,gP,tr,ent⟩:=I.tabOk hT;have hPn:H P≠none:=by obtain⟨t,m,e⟩:=hT;rw[e];simp
 cases hc:codeAmong pos ps.toList with
 |none=>
  refine PySem.W.kla_makeFunction (mg:=X.mg) hcl I.ok.glob (I.mod.glob.keeps I.bk) hcode (C.keeps I.bk) gP tr hc (I.globNe hPn) (I.bltAt hB hPn) λc' ctv h' tk hx hge hlt hrec htb=>?_;obtain⟨c2,oc,vs,tq,e2,hoc,hd,hv⟩:=hrec
  cases e2;have fr:H c'=none:=I.hok.fresh hge;have pu:∀b o,h'.get? b=some o->(h'.push (PySem.W.kla_obj "<lambda>" q params body scope [] ((X.mg "__name__").getD .none) c' ctv)).get? b=some o:=λb o e=>Heap.get?_push_of_some _ e;have nP:∀b,H b=none->b≠P:=λb n z=>hPn (z ▸ n);have neC:∀b o,s.heap.get? b=some o->b≠c':=λb o e=>Nat.ne_of_lt (Nat.lt_of_lt_of_le (Heap.lt_size e) hge);have sH:Same H (upd H c' (.frz oc (.own 0))):=λb o e=>by rw[zw (yi e fr)];exact e
  have un:Un X.fs [] H (upd H c' (.frz oc (.own 0))) s.heap (h'.push (PySem.W.kla_obj "<lambda>" q params body scope [] ((X.mg "__name__").getD .none) c' ctv)):=by
   refine⟨λb o e n _ _=>pu _ _ (hx b o (nP b n) e),λb o e n _ _=>⟨o.slots,pu _ _ (hx b o (nP b n) e)⟩,λb o e n _=>by rw[zw (neC b o e)];exact n,λb o e _=>?_,λb xs e=>sH b _ e,λb o u e=>sH b _ e,λb ls e=>⟨#[],by rw[sH b _ e];simp⟩⟩
   by_cases z:b=P
   ·rw[z];exact⟨_,pu _ _ htb⟩
   ·exact⟨o,pu _ _ (hx b o z e)⟩
  have hk:HOk X.prog X.w (upd H c' (.frz oc (.own 0))) (h'.push (PySem.W.kla_obj "<lambda>" q params body scope [] ((X.mg "__name__").getD .none) c' ctv)):=λb u e=>by
   by_cases z:b=c'
   ·subst z;rw[zx]at e
    cases e;exact⟨pu _ _ hoc,_,pu _ _ hoc⟩
   ·rw[zw z]at e
    by_cases zP:b=P
    ·subst zP;obtain⟨t,m,e'⟩:=hT;rw[e']at e
     cases e;obtain⟨ps',q',t',lab,r1,_,_⟩:=(show zgm H s.heap b _ from I.hok b _ e')
     have q1:=zkl lab
     cases q1;refine⟨_,q,_,lab,pu _ _ htb,by rw[Array.toList_append];exact TriplesOk_snoc _ _ _ _ tr,λpos' cv y=>?_⟩;rw[Array.toList_append]at y;rcases zi7 _ tr y with y|rfl
     ·obtain⟨c3,o3,u3,r1,r2,r3⟩:=ent _ _ y;exact⟨c3,o3,u3,r1,sH _ _ r2,r3⟩
     ·exact⟨c',oc,_,rfl,zx,vs,tq,hd,hv⟩
    ·refine(I.hok b u e).stay (λd v hd' g=>pu _ _ (hx d v ?_ g)) (λd g=>sH _ _ g) (λd xs g=>sH _ _ g) λd o u g=>sH _ _ g;rcases hd' with rfl|hd'
     ·exact zP
     ·rintro rfl;obtain⟨t,m,e'⟩:=hT;rw[e']at hd'
      cases hd'
  refine h _ c' oc (.own 0) ctv _ _ (I.un (t':=tk) un hk) sH zx ⟨vs,tq,hd,hv⟩ (Nat.le_trans hge (Nat.le_of_lt hlt)) (Nat.le_of_eq (Heap.size_push ..)) ?_ (Heap.get?_push_size _ rfl);rw[zw (Nat.ne_of_gt hlt)];exact I.hok.fresh (Nat.le_trans hge (Nat.le_of_lt hlt))
 |some cv=>
  obtain⟨c',oc,u,rfl,e,co⟩:=ent _ _ hc;refine PySem.W.kla_makeFunctionHit (mg:=X.mg) hcl I.ok.glob (I.mod.glob.keeps I.bk) hcode (C.keeps I.bk) gP tr hc (I.bltAt hB hPn) λctv h' tk hk hsz=>?_;exact h _ c' oc u ctv H _ (I.kept (t':=tk) λb o g=>Heap.get?_push_of_some _ (hk b o g)) (Same.refl _) e co hsz (Nat.le_of_eq (Heap.size_push ..)) (I.hok.fresh hsz) (Heap.get?_push_size _ rfl)
end
theorem zpz{P:Program}{w:World}{K:PySem.W.Frag}{mg:Str->Option Value}{base:Heap}{k:Nat}{f c':Addr}{q:Str}{params:Arguments}{body:Expr}{scope:Scope}{pm ctv:Value}{N ps:List Str}{A:Around}{outer:List Env}{s:Shared}{H:Hp}
  {us:List Value}{vs:List V}{Q:VK}{E:XK}{t:TE} (hr:Room (k+1) A) (e0:Env0 P w K mg base A outer s H) (lk:s.heap.get? f=some (PySem.W.kla_obj "<lambda>" q params body scope [] pm c' ctv)) (hcd:s.heap.CodeRec (.ref c') q) (S:z0 N ps scope)
  (hb:bindArgs (PySem.W.kla_fn "<lambda>" q params body scope [] pm (.ref c') ctv) ⟨us,[]⟩=pure (ps.zip us)) (hl:vs.length=ps.length) (r:Vals vs us)
  (ht:PE (zb5 CX0 P w K mg base N q scope f (.ref c') A outer s H E).nox body t) (hq:t (start N vs) H Q):codeAny (model P w) A (.call (.ref f) ⟨us,[]⟩) (CR CX0 outer P w H s Q E) s:=by
 have lim:s.heap.NoLimit:=e0.mod.nolimit.keeps λb o e=>(e0.bs b o e).1;have knd:∀y∈ps.zip us,scope.names.lookup y.1=some .local\/(scope.names.lookup y.1=some .cell/\((cellsFrom (s.heap.objs.size+1) scope.names []).lookup y.1).isSome=true):=λ⟨n,v⟩ hy=>by
  rcases S.par n (List.of_mem_zip hy).1 with z|z
  ·exact .inl z
  ·exact .inr ⟨z,PySem.W.cellsFrom_some _ _ _ (.inl z)⟩
 refine PySem.W.kla_callFunE hr.depth lk rfl S.co S.gen rfl hcd (wpAny_of_eq hb ?_);refine wpAny_newFunctionEnv_cells S.kind knd λenv he s1 x=>?_;subst he;refine⟨lim.keeps x.toInCall.keep,PySem.W.kla_codeExpr ?_⟩;have I:Inv (zb5 CX0 P w K mg base N q scope f (.ref c') A outer s H E) [] (start N vs) H s1:=zek S hr.hd e0 hl r x;exact wpAny_mono (ht.nox [] s1 (start N vs) H _ I hq) (λu s' ⟨v,H',J,rv,qv⟩=>⟨v,H',J.os,J.bare,J.base,J.hok,rv,qv⟩) λe s' hs=>hs
def zi8(X:Cx)(pins:List (Addr×Obj))(σ:St)(f:Addr)(x:V)(H:Hp)(n:Int):Prop :=
 ∀(ps:List (Addr×Obj)) (s:Shared) (H1:Hp) (u:Value),Inv X (pins++ps) σ H1 s->Same H H1->RelV x u ->
  wpAny (model X.prog X.w) X.A.in1 (call (.ref f) [u]) (λkv s'=>∃H2 t,kv=.int n t/\Inv X (pins++ps) σ H2 s'/\Same H1 H2) (λ_ _=>False) s
section
variable {X:Cx}{pins:List (Addr×Obj)}{σ:St}{H:Hp}{a it S f:Addr}{xs:List V}{kf:Nat->Int}{kwd:List (Str×Value)}{R:Value->Shared->Prop}
structure zww(X:Cx)(pins:List (Addr×Obj))(σ:St)(H:Hp)(a it S:Addr)(xs:List V)(kf:Nat->Int)(j i:Nat)(H1:Hp)(s:Shared):Prop where
 I:Inv X pins σ H1 s
 sm:Same H H1
 st:s.heap.IsTupleIter it a j
 f1:FpOk X pins H1 it
 f2:FpOk X pins H1 S
 ne:it≠S
 best:∃vb tb c x,s.heap.get? S=some (seqObj "list" #[vb,.int (kf i) tb] c)/\xs[i]?=some x/\RelV x vb
 lt:i<j
 mx:∀j',j' < j->kf j'<=kf i/\(j' < i->kf j' < kf i)
theorem FpOk.at{b:Addr}{H1 H2:Hp}(h:FpOk X pins H1 b)(n:H2 b=none):FpOk X pins H2 b:=⟨n,h.2⟩
theorem FpOk.inv{b:Addr}{H1:Hp}{s:Shared}{h':Heap}{t':Nat}(h:FpOk X pins H1 b)(I:Inv X pins σ H1 s)(k:∀c o,c≠b->s.heap.get? c=some o->h'.get? c=some o):Inv X pins σ H1 { s with heap:=h',toks:=t' } :=
 I.turned k h.1 h.2.1 h.2.2.2.1 h.2.2.2.2.1 h.2.2.2.2.2
theorem zvn{H1:Hp}{s:Shared}{oi os:Obj}(I:Inv X pins σ H1 s)(h1:FpOk X pins H1 it)(h2:FpOk X pins H1 S)(g1:s.heap.get? it=some oi)(g2:s.heap.get? S=some os)(n1:∀v,oi.data ≠ .cell v)(n2:∀v,os.data ≠ .cell v):
  Inv X (pins ++ [(it,oi),(S,os)]) σ H1 s:=I.pins_of λp hp=>by
 rcases List.mem_append.mp hp with hp|hp
 ·exact I.pin p (List.mem_append_right _ hp)
 ·rcases List.mem_cons.mp hp with rfl|hp
  ·exact⟨g1,h1.1,h1.2.1,h1.2.2.1,n1⟩
  ·rw[List.mem_singleton.mp hp];exact⟨g2,h2.1,h2.2.1,h2.2.2.1,n2⟩
theorem zp0(hc:X.calm=true)(hq:SqT X.K H a xs)(hk:∀i x,xs[i]?=some x->zi8 X pins σ f x H (kf i))
  (hR:∀i x vb s' H',Inv X pins σ H' s'->Same H H'->xs[i]?=some x->RelV x vb->(∀j',j' < xs.length->kf j'<=kf i/\(j' < i->kf j' < kf i))->R vb s') :
  ∀(r j i:Nat) (H1:Hp) (s:Shared),xs.length-j=r->j<=xs.length->zww X pins σ H a it S xs kf j i H1 s ->
   codeAny (model X.prog X.w) X.A (.builtin "max.loop" ⟨[.ref it,.ref f,.ref S],kwd⟩) (λr s'=>match r with|.ok (.ret v)=>R v s'|.ok _=>False|.error e=>X.xe e s') s:=by
 have nm:(toString "max" ++ toString ".loop" : String) = "max.loop" := by decide
 intro r
 induction r with
 |zero=>
  intro j i H1 s e1 e2 h;have ej:j=xs.length:=by omega
  subst ej;obtain⟨I,sm,st,f1,f2,ne,⟨vb,tb,c,x,gS,hx,rx⟩,lt,mx⟩:=h;obtain⟨its,rv,p,hz⟩:=I.tuple ((Same.pers sm).sqT hq);refine codeAny_builtin PySem.F.entry_max_loop ?_;rw[Around.under_plainId PySem.F.plain_max_loop _];show wpAny _ X.A.in1 (seqItems? (.ref S) >>= _) _ _ s;refine wpAny_bind (wpAny_seqItems gS rfl ?_);show wpAny _ X.A.in1 (tryCatch (pyNext (.ref it)) _ >>= _) _ _ s;have hl:=rv.length;refine wpAny_bind (wpAny_tryCatch (wpAny_pyNext_tuple_end (I.ok.hd hc) st (show s.heap.IsTuple a its.toArray from p) (by simp;omega) λh' eb=>?_));have I1:Inv X pins σ H1 { s with heap:=h',toks:=s.toks }:=f1.inv I λb o hb e=>eb b o hb e;have gS':=eb S _ ne.symm gS;show wpAny _ X.A.in1 (updateSeq S (λ_=>#[]) >>= _) _ _ _;refine wpAny_bind (wpAny_updateSeq gS' rfl (wpAny_bind (wpAny_letGo (wpAny_pure ?_))));exact hR i x vb _ H1 (f2.inv (t':=s.toks) I1 λb o n e=>(Heap.get?_update_other _ _ (Ne.symm n)).trans e) sm hx rx mx
 |succ r ih=>
  intro j i H1 s e1 e2 h;have lj:j<xs.length:=by omega
  obtain⟨I,sm,st,f1,f2,ne,⟨vb,tb,c,x,gS,hx,rx⟩,lt,mx⟩:=h;obtain⟨its,rv,p,hz⟩:=I.tuple ((Same.pers sm).sqT hq);obtain⟨y,hy⟩:∃y,xs[j]?=some y:=⟨_,List.getElem?_eq_getElem lj⟩
  obtain⟨u,hu,ru⟩:=rv.get hy;refine codeAny_builtin PySem.F.entry_max_loop ?_;rw[Around.under_plainId PySem.F.plain_max_loop _];show wpAny _ X.A.in1 (seqItems? (.ref S) >>= _) _ _ s;refine wpAny_bind (wpAny_seqItems gS rfl ?_);show wpAny _ X.A.in1 (tryCatch (pyNext (.ref it)) _ >>= _) _ _ s;refine wpAny_bind (wpAny_tryCatch (wpAny_pyNext_tuple_item st (show s.heap.IsTuple a its.toArray from p) (x:=u) (by simpa using hu) λh' st' sb=>?_));have I1:Inv X pins σ H1 { s with heap:=h',toks:=s.toks }:=f1.inv I λb o hb e=>(sb.2 b hb).trans e;have gS':=(sb.2 S ne.symm).trans gS;obtain⟨oi,gi,ci,di⟩:=id st';have I2:=zvn I1 f1 f2 gi gS' (λv z=>by rw[di]at z;cases z) (λv z=>by cases z);show wpAny _ X.A.in1 (tryCatch (holding [u] (call (.ref f) [u])) _ >>= _) _ _ _;refine wpAny_bind (wpAny_tryCatch (wpAny_holding (wpAny_mono (hk j y hy _ _ H1 u I2 sm ru) (λkv s2 ⟨H2,t2,ekv,J,sm2⟩=>?_) λe s2 z=>z.elim)))
  ·subst ekv;have p1:=J.pin (it,oi) (List.mem_append_right _ (List.mem_append_right _ (.head _)));have p2:=J.pin (S,seqObj "list" #[vb,.int (kf i) tb] c) (List.mem_append_right _ (List.mem_append_right _ (.tail _ (.head _))));have J':=J.unpinned;show wpAny _ X.A.in1 (tryCatch (holding [u,.int (kf j) t2] (richCompare .Gt (.int (kf j) t2) (.int (kf i) tb) >>= _)) _ >>= _) _ _ _;refine wpAny_bind (wpAny_tryCatch (wpAny_holding (wpAny_bind (CmpOf.ints_gt (prog:=X.prog) (w:=X.w) (A:=X.A.in1) (P:=λi v=>∃t,v=.int (kf i) t) kf (λi v h=>h) j i _ _ _ _ _ ⟨t2,rfl⟩ ⟨tb,rfl⟩ ?_))));refine wpAny_bind (wpAny_holding (wpAny_truthy_bool ?_));refine wpAny_bind (wpAny_letGo (wpAny_pure ?_))
   by_cases z:kf j > kf i
   ·simp only[z,decide_true,if_true];refine wpAny_bind (wpAny_updateSeq p2.1 rfl (wpAny_bind (wpAny_letGo ?_)));rw[nm];refine wpAny_pure ⟨plainId_quiet PySem.F.plain_max_loop _,ih (j+1) j H2 _ (by omega) lj ⟨(f2.at p2.2.1).inv (t':=s2.toks) J' λb o n e=>(Heap.get?_update_other _ _ (Ne.symm n)).trans e,sm.trans sm2,⟨oi,(Heap.get?_update_other _ _ ne.symm).trans p1.1,ci,di⟩,f1.at p1.2.1,f2.at p2.2.1,ne,⟨u,t2,_,y,get?_update_seq p2.1 λ_=>#[u,.int (kf j) t2],hy,ru⟩,Nat.lt_succ_self _,λj' hj=>?_⟩⟩
    by_cases e:j'=j
    ·subst e;exact⟨Int.le_refl _,λq=>absurd q (Nat.lt_irrefl _)⟩
    ·have:=(mx j' (by omega)).1;exact⟨by omega,λ_=>by omega⟩
   ·simp only[z,decide_false,Bool.false_eq_true,if_false];refine wpAny_bind (wpAny_letGo ?_);rw[nm];refine wpAny_pure ⟨plainId_quiet PySem.F.plain_max_loop _,ih (j+1) i H2 _ (by omega) lj ⟨J',sm.trans sm2,⟨oi,p1.1,ci,di⟩,f1.at p1.2.1,f2.at p2.2.1,ne,⟨vb,tb,c,x,p2.1,hx,rx⟩,by omega,λj' hj=>?_⟩⟩
    by_cases e:j'=j
    ·subst e;exact⟨by omega,λq=>absurd lt (by omega)⟩
    ·exact mx j' (by omega)
end
theorem zp1(a v d:Value):argsOk "max" ⟨[a],[(Str.ofString "key",v),(Str.ofString "default",d)]⟩:=by unfold argsOk;kernel_rfl
section
variable {X:Cx}{pins:List (Addr×Obj)}{σ:St}{H:Hp}{a f:Addr}{xs:List V}{kf:Nat->Int}{R:Value->Shared->Prop}{s:Shared}
theorem ztp(hc:X.calm=true)(I:Inv X pins σ H s)(hq:SqT X.K H a xs)(hk:∀i x,xs[i]?=some x->zi8 X pins σ f x H (kf i))
  (h0:xs = []->∀s' H',Inv X pins σ H' s'->Same H H'->R .none s')
  (hR:∀i x vb s' H',Inv X pins σ H' s'->Same H H'->xs[i]?=some x->RelV x vb->(∀j',j' < xs.length->kf j'<=kf i/\(j' < i->kf j' < kf i))->R vb s') :
  wpAny (model X.prog X.w) X.A (call (.builtin "max") [.ref a] [(Str.ofString "key",.ref f),(Str.ofString "default",.none)]) R X.xe s:=by
 have nm:(toString "max" ++ toString ".loop" : String) = "max.loop" := by decide
 obtain⟨its,rv,p,hz⟩:=I.tuple hq;have la:a<s.heap.objs.size:=p.lt;refine PyProof.Rows.kmk_tree F.kind_max F.plain_max F.entry_max (zp1 _ _ _) ?_;show wpAny _ X.A.in1 (Builtin.Builtins.bindParams "max" ["key", "default"] 0 ⟨[],[(Str.ofString "key",.ref f),(Str.ofString "default",.none)]⟩ >>= _) _ _ s;refine wpAny_bind (wpAny_of_eq (show Builtin.Builtins.bindParams "max" ["key", "default"] 0 ⟨[],[(Str.ofString "key",.ref f),(Str.ofString "default",.none)]⟩=pure [some (.ref f),some .none] from rfl) ?_);refine wpAny_bind (wpAny_pure ?_);refine wpAny_bind (wpAny_pyIter_tuple (show s.heap.IsTuple a its.toArray from p) ?_);refine wpAny_bind (wpAny_newObj_type ?_);rw[nm];have hn1:H s.heap.objs.size=none:=I.hok.fresh (Nat.le_refl _);have e1:(s.heap.push { cls:=.type "tuple_iterator",data:=.fields #[.ref a,.int 0 0] }).objs.size=s.heap.objs.size+1:=Heap.size_push ..;have hn2:H (s.heap.push { cls:=.type "tuple_iterator",data:=.fields #[.ref a,.int 0 0] }).objs.size=none:=I.hok.fresh (by rw[e1];exact Nat.le_succ _);have f1:FpOk X pins H s.heap.objs.size:=I.fpOk (Nat.le_refl _) hn1;have f2:FpOk X pins H (s.heap.push { cls:=.type "tuple_iterator",data:=.fields #[.ref a,.int 0 0] }).objs.size:=I.fpOk (by rw[e1];exact Nat.le_succ _) hn2;have ne:s.heap.objs.size≠(s.heap.push { cls:=.type "tuple_iterator",data:=.fields #[.ref a,.int 0 0] }).objs.size:=by rw[e1];exact Nat.ne_of_lt (Nat.lt_succ_self _)
 generalize eS:(s.heap.push { cls:=.type "tuple_iterator",data:=.fields #[.ref a,.int 0 0] }).objs.size=S at hn2 f2 ne;have gS:((s.heap.push { cls:=.type "tuple_iterator",data:=.fields #[.ref a,.int 0 0] }).push { cls:=.type "list",data:=.seq #[] }).get? S=some (seqObj "list" #[] 0):=by rw[<-eS];exact Heap.get?_push_size _ rfl
 have st:((s.heap.push { cls:=.type "tuple_iterator",data:=.fields #[.ref a,.int 0 0] }).push { cls:=.type "list",data:=.seq #[] }).IsTupleIter s.heap.objs.size a 0:=⟨_,Heap.get?_push_of_some _ (Heap.get?_push_size _ rfl),rfl,rfl⟩
 have I0:Inv X pins σ H { s with heap:=(s.heap.push { cls:=.type "tuple_iterator",data:=.fields #[.ref a,.int 0 0] }).push { cls:=.type "list",data:=.seq #[] },toks:=s.toks }:=I.kept λb o e=>Heap.get?_push_of_some _ (Heap.get?_push_of_some _ e);have p0:=(I0.tuple hq)
 generalize (s.heap.push { cls:=.type "tuple_iterator",data:=.fields #[.ref a,.int 0 0] }).push { cls:=.type "list",data:=.seq #[] }=h0' at gS st I0 p0;generalize s.heap.objs.size=it at f1 ne st;obtain⟨its,rv,p,hz⟩:=p0;refine wpAny_pure ⟨plainId_quiet F.plain_max_loop _,?_⟩;refine codeAny_builtin F.entry_max_loop ?_;rw[Around.under_plainId F.plain_max_loop _];show wpAny _ X.A.in1 (seqItems? (.ref S) >>= _) _ _ _;refine wpAny_bind (wpAny_seqItems gS rfl ?_);show wpAny _ X.A.in1 (tryCatch (pyNext (.ref it)) _ >>= _) _ _ _;have hl:=rv.length
 cases xs with
 |nil=>
  refine wpAny_bind (wpAny_tryCatch (wpAny_pyNext_tuple_end (I0.ok.hd hc) st (show Heap.IsTuple _ a its.toArray from p) (by simp;simpa using hl.symm) λh' eb=>?_));refine wpAny_bind (m:=rule _) (wpAny_rule ?_);exact wpAny_pure (h0 rfl _ H (f1.inv (t':=s.toks) I0 λb o hb e=>eb b o hb e) (Same.refl _))
 |cons x xs=>
  obtain⟨u,hu,ru⟩:=rv.get (show(x::xs)[0]?=some x from rfl);refine wpAny_bind (wpAny_tryCatch (wpAny_pyNext_tuple_item st (show Heap.IsTuple _ a its.toArray from p) (x:=u) (by simpa using hu) λh' st' sb=>?_));have I1:Inv X pins σ H { s with heap:=h',toks:=s.toks }:=f1.inv (s:={ s with heap:=h0',toks:=s.toks }) I0 λb o hb e=>(sb.2 b hb).trans e;have gS':=(sb.2 S ne.symm).trans gS;obtain⟨oi,gi,ci,di⟩:=id st';have I2:=zvn I1 f1 f2 gi gS' (λv z=>by rw[di]at z;cases z) (λv z=>by cases z);show wpAny _ X.A.in1 (tryCatch (holding [u] (call (.ref f) [u])) _ >>= _) _ _ _;refine wpAny_bind (wpAny_tryCatch (wpAny_holding (wpAny_mono (hk 0 x rfl _ _ H u I2 (Same.refl _) ru) (λkv s2 ⟨H2,t2,ekv,J,sm2⟩=>?_) λe s2 z=>z.elim)));subst ekv;have p1:=J.pin (it,oi) (List.mem_append_right _ (List.mem_append_right _ (.head _)));have p2:=J.pin (S,seqObj "list" #[] 0) (List.mem_append_right _ (List.mem_append_right _ (.tail _ (.head _))));have J':=J.unpinned;show wpAny _ X.A.in1 (updateSeq S (λ_=>#[u,.int (kf 0) t2]) >>= _) _ _ _;refine wpAny_bind (wpAny_updateSeq p2.1 rfl ?_);rw[nm];refine wpAny_pure ⟨plainId_quiet F.plain_max_loop _,zp0 (kf:=kf) hc hq hk hR _ 1 0 H2 _ rfl (by simp) ⟨(f2.at p2.2.1).inv (t':=s2.toks) J' λb o n e=>(Heap.get?_update_other _ _ (Ne.symm n)).trans e,sm2,⟨oi,(Heap.get?_update_other _ _ ne.symm).trans p1.1,ci,di⟩,f1.at p1.2.1,f2.at p2.2.1,ne,⟨u,t2,_,x,get?_update_seq p2.1 λ_=>#[u,.int (kf 0) t2],rfl,ru⟩,Nat.lt_succ_self _,λj' hj=>?_⟩⟩
  cases (show j'=0 by omega);exact⟨Int.le_refl _,λq=>absurd q (Nat.lt_irrefl _)⟩
end
def zns(rb:D->(D->Prop)->Prop)(ta:DTF):DTE:=λσ Q=>ta σ λds=>match ds with
 |[.tuple xs]=>∃kf:D->Int,(∀x∈xs,rb x λr=>r=.int (kf x))/\(xs = []->Q .none)/\∀(i:Nat) x,xs[i]?=some x->(∀(j:Nat) y,xs[j]?=some y->kf y<=kf x/\(j<i->kf y<kf x))->Q x
 |_=>False
section
variable {X:Cx}{a body:Expr}{ta:DTF}{tb:DTE}{p pos kp kp2 lp cp:Pos}{k:Nat}{P c:Addr}{q y:Str}{params:Arguments}{scope:Scope}{N:List Str}
theorem zp2{pins:List (Addr×Obj)}{σ:St}{H:Hp}{f c':Addr}{oc:Obj}{u:HO}{pm ctv:Value}{x:V}{d:D}{n:Int}(hr:Room (k+2) X.A)(S:z0 N [y] scope)
  (hbd:∀(pm cd ctv u:Value),bindArgs (PySem.W.kla_fn "<lambda>" q params body scope [] pm cd ctv) ⟨[u],[]⟩=pure [(y,u)])
  (hb:∀(A:Around) (outer:List Env) (s:Shared) (H:Hp) (E:XK) (f:Addr) (cd:Value),Room k (A.deeper (envOfC q scope s.heap.objs.size f cd))->DE (zb5 CX0 X.prog X.w X.K X.mg X.base N q scope f cd A outer s H E).nox body tb)
  (hc':H c'=some (.frz oc u)) (co:zjp oc q) (rp:Rep X.K H d x) (hn:tb (kh N [.val d]) λr=>r=.int n) :
  zi8 X (pins ++ [(f,PySem.W.kla_obj "<lambda>" q params body scope [] pm c' ctv)]) σ f x H n:=λps s1 H1 u1 I1 sm ru=>by
 have pf:=I1.pin (f,PySem.W.kla_obj "<lambda>" q params body scope [] pm c' ctv) (List.mem_append_right _ (List.mem_append_left _ (List.mem_append_right _ (.head _))));obtain⟨vs,tq,hd,hv⟩:=co;obtain⟨g,_⟩:=(show ObjOk X.prog X.w H1 s1.heap c' (.frz oc u) from I1.hok c' _ (sm _ _ hc'))
 have run:=zpz (k:=k) (N:=N) (ps:=[y]) (us:=[u1]) (vs:=[x]) (Q:=λv H2=>Same H1 H2/\v=.int n) (E:=E0) hr.in1 I1.env0.in1 pf.1 ⟨c',oc,vs,tq,rfl,g,hd,hv⟩ S (hbd _ _ _ _) rfl (.cons ru .nil)
  (hb _ _ _ _ _ _ _ (hr.in1.deeper _)).pe ⟨H1,kh N [.val d],λr=>r=.int n,DOk.begin (.cons (show zu8 X.K H1 (.val d) x from rp.same sm) .nil) N,hn,λv H' d' sm' rp' e=>by subst e;cases rp';exact⟨sm',rfl⟩⟩
 refine wpAny_call (codeAny_mono run λr s' h=>?_)
 cases r with
 |error e=>exact False.elim h
 |ok fl=>
  cases fl with
  |ret u2=>
   obtain⟨v,H2,J,rv,sm2,e⟩:=I1.after h;subst e;obtain⟨t,rfl⟩:=rv;exact⟨H2,t,rfl,J,sm2⟩
  |next=>exact False.elim h
  |brk=>exact False.elim h
  |cont=>exact False.elim h
theorem zp3{j:Nat}(hc:X.calm=true)(hr:Room (k+2) X.A)(hg:Gl X "max")(hm:X.mg "max" = none)(ha:DAv X [a] ta)(hT:jx q P X.H₀)(C:PySem.W.CodeHd X.base c P)(hcode:X.env.code=.ref c)(hB:jf X.mg X.base)
  (hq:X.env.qual ++ "<lambda>" = q) (hcl:closureFor scope X.env=pure []) (hdf:defaultsOf params X.env=([],[])) (S:z0 N [y] scope)
  (hbd:∀(pm cd ctv u:Value),bindArgs (PySem.W.kla_fn "<lambda>" q params body scope [] pm cd ctv) ⟨[u],[]⟩=pure [(y,u)])
  (hb:∀(A:Around) (outer:List Env) (s:Shared) (H:Hp) (E:XK) (f:Addr) (cd:Value),Room k (A.deeper (envOfC q scope s.heap.objs.size f cd))->DE (zb5 CX0 X.prog X.w X.K X.mg X.base N q scope f cd A outer s H E).nox body tb)
  (he:starEach [a] X.env=(false,eval a X.env)::starEach [] X.env:=by rfl) :
  DE X (.Call (.Name "max" p) [a] [⟨some (Str.ofString "key"),.Lambda params body scope lp,kp⟩,⟨some (Str.ofString "default"),.Constant .none j cp,kp2⟩] pos) (zns (λx=>tb (kh N [.val x])) ta) :=
 ⟨λpins s σ H H₀ σD Q I ok q0=>by
 refine wpAny_Call_Name_kw (qo I hg hm boot_max ?_ (by decide) (by decide));refine callWith_kw (thn (ha.run pos pins s σ H H₀ σD _ I ok q0) λus s1 ⟨vs,H1,ds,I1,r1,sm1,rp1,q1⟩=>?_) (by rw[he];rfl) (by rw[he];rfl);refine wpAny_evalAll_cons (wpAny_bind (PySem.W.kla_eval hdf ?_));rw[hq];refine znr I1 (I1.tabAt hT) C hcode hB hcl λf c' oc u ctv H2 s2 I2 sm2 hc' co lf _ hf gf=>?_;refine wpAny_bind (wpAny_standAt (wpAny_pure (wpAny_evalAll_cons (wpAny_bind (wpAny_Constant_none (wpAny_bind (wpAny_standAt (wpAny_pure (wpAny_evalAll_nil ?_)))))))))
 match ds,q1,rp1 with
 |[.tuple xs],q1,rp1=>
  obtain⟨v',rfl,r⟩:=rp1.one;obtain⟨kf,k1,k2,k3⟩:=q1;obtain⟨u',rfl,ru⟩:=r1.one;rcases r with r |⟨_,z,_⟩
  ·cases r with
   |@tup _ b ws hs rs=>
    cases ru;have fp:=I1.fpOk (H':=H2) lf hf;have I3:Inv X (pins ++ [(f,PySem.W.kla_obj "<lambda>" q params body scope [] ((X.mg "__name__").getD .none) c' ctv)]) σ H2 s2:=I2.pins_of λz hz=>by
     rcases List.mem_append.mp hz with hz|hz
     ·exact I2.pin z (List.mem_append_right _ hz)
     ·rw[List.mem_singleton.mp hz];exact⟨gf,hf,fp.2.1,fp.2.2.1,λv z=>by cases z⟩
    have rs2:=rs.same sm2;have at1:∀(i:Nat) (x:V),ws[i]?=some x->∃d,xs[i]?=some d/\Rep X.K H2 d x:=λi x h=>rs2.get' h;have len:xs.length=ws.length:=rs.length;refine ztp (kf:=λi=>kf (xs.getD i .none)) hc I3 ((Same.pers sm2).sqT hs) (λi x hx=>?_) (λz s' H' J sm=>?_) λi x vb s' H' J sm hx rx mx=>?_
    ·obtain⟨d,hd,rd⟩:=at1 i x hx;rw[List.getD_eq_getElem?_getD,hd];exact zp2 hr S hbd hb hc' co rd (k1 d (List.mem_of_getElem? hd))
    ·subst z;exact⟨.non,H',.none,J.unpinned,rfl,sm1.trans (sm2.trans sm),.non,k2 (List.eq_nil_of_length_eq_zero len)⟩
    ·obtain⟨d,hd,rd⟩:=at1 i x hx;refine⟨x,H',d,J.unpinned,rx,sm1.trans (sm2.trans sm),rd.same sm,k3 i d hd λj y hy=>?_⟩;have:=mx j (by rw[<-len];exact(List.getElem?_eq_some_iff.mp hy).1);simp only[List.getD_eq_getElem?_getD,hd,hy,Option.getD_some]at this;exact this
  ·cases z⟩
end
def qf(q:Str)(T:Addr)(sp:Sp):Sp:=λvs H Q E=>jx q T H/\sp vs H Q E
section
variable {X:Cx}{e:Expr}{es:List Expr}{k k':Nat}{x q:Str}{T:Addr}{ps:List Str}{sp:DSp}{t:DTP}{p pos:Pos}
theorem znt{sp:Sp}{t:TA}(C:yd X.prog X.w X.K X.mg X.base k x ps (qf q T sp))(hT:jx q T X.H₀)(hr:Room k' X.A)(hg:Gl X x)(ha:PA X (e::es) t)(hk:k<=k')
  (hdb:(x ==("__debug__" : Str))=false) (he:starEach (e::es) X.env=(false,eval e X.env)::starEach es X.env) (hpl:(backTo pos (starEach es X.env)).any (·.1)=false):PE X (.Call (.Name x p) (e::es) [] pos) (zmg sp [] E0 t):=λpins s σ H Q I h=>by
 obtain⟨f,fd,F,b,kp,m⟩:=C;refine wpAny_Call_Name_kw (ze3 I hg m ?_ hdb);refine PySem.W.callWith_K (h₀:=X.base) I.ok.mod.kin kp (thn (ha pos pins s σ H _ I h) λus s1 ⟨vs,H1,I1,r,z⟩=>⟨I1.kIn,?_⟩) he hpl;exact zmh F (hr.mono hk) b .nil zqw I1 r ⟨I1.tabAt hT,z⟩
theorem zlu{pins:List (Addr×Obj)}{σ:St}{H H₀:Hp}{σD:DSt}{s:Shared}{Q:Ret->Prop}(C:yd X.prog X.w X.K X.mg X.base k x ps (qf q T (z4 X.K sp)))(hT:jx q T X.H₀)(hr:Room k' X.A)(hg:Gl X x)(ha:DPs X (e::es) t)(hk:k<=k')
  (hdb:(x ==("__debug__" : Str))=false) (he:starEach (e::es) X.env=(false,eval e X.env)::starEach es X.env) (hpl:(backTo pos (starEach es X.env)).any (·.1)=false) (I:Inv X pins σ H s) (ok:DOk X.K H₀ H σD σ) (z:t σD λws=>sp ws Q) :
  wpAny (model X.prog X.w) X.A (eval (.Call (.Name x p) (e::es) [] pos) X.env) (λu s'=>∃v H' r,Inv X pins σ H' s'/\RelV v u/\Same H H'/\zfo X.K H H' r v/\Q r) X.xe s:=by
 refine thn (znt C hT hr hg ha.pa hk hdb he hpl pins s σ H (λv H'=>∃r,Same H H'/\zfo X.K H H' r v/\Q r) I ?_) λu s' ⟨v,H',I',r,z,sm,rp,qd⟩=>⟨v,H',z,I',r,sm,rp,qd⟩
 refine⟨H₀,σD,_,ok,z,λvs H1 ws s1 r1 q1=>⟨ws,Q,by rw[List.append_nil];exact r1,q1,λv H' r s2 rp qd=>⟨r,s1.trans s2,?_,qd⟩⟩⟩
 cases r with
 |val d=>exact rp
 |new xs=>obtain⟨a,vs,e1,n,e2,r⟩:=rp;exact⟨a,vs,e1,s1.free n,e2,r⟩
theorem zde(C:yd X.prog X.w X.K X.mg X.base k x ps (qf q T (z4 X.K sp)))(hT:jx q T X.H₀)(hr:Room k' X.A)(hg:Gl X x)(ha:DPs X (e::es) t)(hk:k<=k':=by decide)(hdb:(x ==("__debug__" : Str))=false:=by decide)
  (he:starEach (e::es) X.env=(false,eval e X.env)::starEach es X.env:=by rfl) (hpl:(backTo pos (starEach es X.env)).any (·.1)=false:=by rfl):DE X (.Call (.Name x p) (e::es) [] pos) (zj7 sp t) :=
 ⟨λpins s σ H H₀ σD Q I ok z=>thn (zlu C hT hr hg ha hk hdb he hpl I ok z) λu s' ⟨v,H',r,I',rv,sm,rp,qd⟩=>by
  cases r with
  |val d=>exact⟨v,H',d,I',rv,sm,rp,qd⟩
  |new xs=>
   obtain⟨a,vs,rfl,n,e,r⟩:=rp;obtain⟨H'',J,sm',r'⟩:=j4 I' sm n e r;exact⟨.ref a,H'',.list xs,J,rv,sm',r',qd⟩⟩
end
section
variable {P:Program}{w:World}{K:PySem.W.Frag}{mg:Str->Option Value}{base:Heap}
theorem Fun.dokT{x qual q:Str}{T:Addr}{st:Stmt}{f:Addr}{fd:FuncData}{N ps:List Str}{k:Nat}{sp:DSp}(F:Fun K x qual st f fd)(S:z0 N ps (zc st))(len:∀ws Q,sp ws Q->ws.length=ps.length)
  (hbody:∀(A:Around) (outer:List Env) (s:Shared) (H:Hp) (ws:List W) (Q:Ret->Prop) (E:XK),Room k (A.deeper (envOfC qual (zc st) s.heap.objs.size f fd.code))->jx q T H->sp ws Q ->
   ∃t,DSs (zb5 CX0 P w K mg base N qual (zc st) f fd.code A outer s H E).nox (zh st) t/\t { nx:=λ_=>Q (.val .none),rt:=Q } (kh N ws)):FnOk P w K mg base CX0 (k+1) f fd ps (qf q T (z4 K sp)):=by
 obtain⟨oc,od,kV,doc,pm,an,cdv,ct,osl,rfl,lk,hcd⟩:=F.ex;refine zqu lk hcd S (λvs H Q E h=>?_) λA outer s H vs Q E hr h=>?_
 ·obtain⟨_,ws,QD,r,z,_⟩:=h;rw[<-r.length];exact len ws QD z
 ·obtain⟨hT,ws,QD,r,z,kk⟩:=h;obtain⟨t,ht,hq⟩:=hbody A outer s H ws QD E hr hT z;exact⟨_,ht.ps.nox,H,_,_,DOk.begin r N,hq,λσ' H' σD' ok' p' q'=>kk .non H' (.val .none) ok'.same .non q',λv H' r' sm rp qr=>kk v H' r' sm rp qr,λ_ _ _ _ _ z=>z.elim,λ_ _ _ _ _ z=>z.elim⟩
end
def wl(T:Addr)(K:PySem.W.Frag):PySem.W.Frag:=K.filter λp=>p.1 != T
theorem qz{T a:Addr}(h:a≠T):∀K:PySem.W.Frag,(wl T K).lookup a=K.lookup a
 |[]=>rfl
 |(b,o)::K=>by
  have ih:=qz h K;unfold wl at ih ⊢
  by_cases z:b=T
  ·subst z;rw[List.filter_cons_of_neg (by simp),ih,List.lookup_cons,show(a == b)=false by simpa using h]
  ·rw[List.filter_cons_of_pos (by simpa using z),List.lookup_cons,List.lookup_cons,ih]
theorem zbs{T:Addr}:∀K:PySem.W.Frag,(wl T K).lookup T=none
 |[]=>rfl
 |(b,o)::K=>by
  have ih:=zbs (T:=T) K;unfold wl at ih ⊢
  by_cases z:b=T
  ·rw[List.filter_cons_of_neg (by simp[z]),ih]
  ·rw[List.filter_cons_of_pos (by simpa using z),List.lookup_cons,show(T == b)=false by simpa using Ne.symm z,ih]
section
variable {T a:Addr}{K:PySem.W.Frag}{h:Heap}
abbrev zca:Obj:={ cls:=.none,data:=.fields #[] }
theorem zkm(X:K.In h):(wl T K).In h:=λb o e=>by
 by_cases z:b=T
 ·subst z;rw[zbs]at e;cases e
 ·rw[qz z]at e;exact X b o e
theorem z9(X:K.In h)(gT:h.get? T=some zca){o:Obj}(l:K.lookup a=some o)(n:o≠zca):(wl T K).lookup a=some o:=by
 rw[qz λz=>n ?_]
 ·exact l
 ·have e:=X _ _ l;rw[z,gT]at e;exact(Option.some.inj e).symm
theorem zo{ns:Addr}(hg:ns≠T){x:Str}:PySem.W.nsIn (wl T K) ns x=PySem.W.nsIn K ns x:=by
 unfold PySem.W.nsIn;rw[qz hg]
theorem zr(X:K.In h)(gT:h.get? T=some zca){cd:Value}{q:Str}(e:PySem.W.codeIn K cd q=true):PySem.W.codeIn (wl T K) cd q=true:=by
 obtain⟨c,o,vs,t,rfl,g,d,r⟩:=PySem.W.codeRec_of X e;have z:c≠T:=λz=>by
  subst z;rw[gT]at g
  cases g
  cases d
  cases r
 unfold PySem.W.codeIn at e ⊢;dsimp only at e ⊢;rw[qz z];exact e
theorem zt(X:K.In h)(gT:h.get? T=some zca){oc:Value}{od:Option Addr}{fd:FuncData}{sl:Array (Option Value)}(l:K.lookup a=some ⟨oc,od,.func fd,sl⟩):PySem.W.keepIn (wl T K) (.ref a)=true:=by
 unfold PySem.W.keepIn;dsimp only;rw[z9 X gT l (λz=>by cases z)]
theorem znu{mg:Str->Option Value}(G:h.Ns mainGlobals mg)(gT:h.get? T=some zca):mainGlobals≠T:=λz=>by
 obtain⟨o',es,ep,e,d,_⟩:=G;rw[z,gT]at e
 cases e
 cases d
def HdO(oc:Obj)(T:Addr):Prop:=∃vs file tf flags tg inF text tt,oc.cls=.type "code" /\ oc.data=.fields vs/\vs[11]?=some (.ref T)/\vs.getD 11 .none=.ref T/\vs.getD 18 .none=.str file tf /\
  vs.getD 7 .none=.int flags tg/\vs.getD 9 .none=.bool inF/\vs.getD 10 .none=.int text tt
theorem HdO.hd{oc:Obj}{c:Addr}(x:HdO oc T)(e:h.get? c=some oc)(n:c≠T):PySem.W.CodeHd h c T :=
 let ⟨vs,file,tf,flags,tg,inF,text,tt,r1,r2,r3,r4,r5,r6,r7,r8⟩:=x;⟨oc,vs,file,tf,flags,tg,inF,text,tt,e,r1,r2,r3,r4,r5,r6,r7,r8,n⟩
end
theorem zlv{P:Program}{w:World}{K:PySem.W.Frag}{mg mb:Str->Option Value}{k:Nat}{fa a T c:Addr}{oc:Obj}{fd:FuncData}{x q:Str}{sp:Sp}{s₁:Shared}{vs:List Value}{ns:List Int}
  (KX:K.In s₁.heap) (hTK:K.lookup T=none) (gT:s₁.heap.get? T=some zca) (gc:s₁.heap.get? c=some oc) (hO:HdO oc T) (hcT:c≠T) (hB:jf mg s₁.heap) (hns:s₁.heap.Ns mainGlobals mg) (hb:s₁.heap.Ns builtinsNs mb) (hbb:∀x:Str,x ≠ "__name__" -> mb x=bootBuiltins x) (hlim:s₁.heap.NoLimit) (hg:s₁.gens = #[])
  (ha:s₁.heap.get? a=some { cls:=.type "list",data:=.seq vs.toArray }) (hi:IntsAre vs ns) (hl:ns.length<=sizeLine) (hr:Room k callerA)
  (F:∀base:Heap,K.In base->base.Ns mainGlobals mg->jf mg base->PySem.W.CodeHd base c T->FnOk P w K mg base CX0 k fa fd [x] (qf q T sp)) (hbind:∀(s:Shared) (u:Value),BindsTo s fd ⟨[u],[]⟩ [(x,u)])
  (hsp:∀H:Hp,SqL K H a (ns.map V.int)->sp [.ref a] H (λv _=>v=.bl true) λ_ _ _=>False) :
  codeAny (model P w) callerA (.call (.ref fa) ⟨[.ref a],[]⟩) (λr s'=>r=.ok (.ret (.bool true))/\OldK s₁.heap s'.heap/\s'.os=s₁.os/\AllBare s'.gens) s₁:=by
 have rv:=zem hi;have lenV:=hi.length;have core:∀H:Hp,H T=some (.tbl #[.str q 0])->SqL K H a (ns.map V.int)->HOk P w H s₁.heap->(∀b,H b=none\/b=T\/(b=a/\K.lookup a=none/\∃o xs,H a=some (.frz o (.lst xs)))) ->
   codeAny (model P w) callerA (.call (.ref fa) ⟨[.ref a],[]⟩) (λr s'=>r=.ok (.ret (.bool true))/\OldK s₁.heap s'.heap/\s'.os=s₁.os/\AllBare s'.gens) s₁:=by
  intro H hT hS hok hA;have up:∀{b:Addr}{o:Obj},s₁.heap.get? b=some o->H b=none->(zcp s₁.heap H).get? b=some o:=λe n=>zl9 e n;have free:∀{b:Addr}{o:Obj},s₁.heap.get? b=some o->b≠T->(∀its n,o.data ≠ .seq its n)->H b=none:=λ{b o} e n d=>by
   rcases hA b with z|z |⟨z,_⟩
   ·exact z
   ·exact absurd z n
   ·subst z;rw[ha]at e;cases e;exact absurd rfl (d _ _)
  have nT:∀{b:Addr}{o:Obj},s₁.heap.get? b=some o->o.data ≠ .fields #[]->b≠T:=λ{b o} e d z=>by subst z;rw[gT]at e;cases e;exact d rfl
  have nsK:∀{b:Addr}{m:Str->Option Value},s₁.heap.Ns b m->(zcp s₁.heap H).Ns b m:=λ{b m} ⟨o,es,ep,e,d,r⟩=>⟨o,es,ep,up e (free e (nT e (by rw[d];intro z;cases z)) (by rw[d];intro _ _ z;cases z)),d,r⟩
  have hKb:K.In (zcp s₁.heap H):=λb o e=>up (KX b o e) (by
   rcases hA b with z|z |⟨z,z2,_⟩
   ·exact z
   ·rw[z,hTK]at e;cases e
   ·rw[z,z2]at e;cases e)
  have hBb:jf mg (zcp s₁.heap H):=let ⟨bm,o,h1,h2,h3,h4,h5,h6⟩:=hB;⟨bm,o,h1,h2,up h3 (free h3 (nT h3 (by rw[h6];intro z;cases z)) (by rw[h6];intro _ _ z;cases z)),h4,h5,h6⟩;have hCb:PySem.W.CodeHd (zcp s₁.heap H) c T:=hO.hd (up gc (free gc hcT (by obtain⟨vs,_,_,_,_,_,_,_,_,r2,_⟩:=hO;rw[r2];intro _ _ z;cases z))) hcT;have hM:Mod K mg (zcp s₁.heap H):=⟨hKb,nsK hns,⟨mb,nsK hb,hbb⟩,let ⟨mc,h1,h2⟩:=hlim;⟨mc,nsK h1,h2⟩⟩
  have e0:Env0 P w K mg (zcp s₁.heap H) callerA [] s₁ H:=⟨rfl,hM,λb o e=>zop e,Nat.le_of_eq (zk0 _ _),trivial,λb hb=>absurd (show b∈([]:List Addr) from hb) (by simp),hok,.of_eq hg⟩
  refine codeAny_mono ((F _ hKb (nsK hns) hBb hCb).run callerA [] s₁ H ⟨[.ref a],[]⟩ [.ref a] [.ref a] _ _ hr e0 (hbind s₁ (.ref a)) (.cons rfl .nil) ⟨⟨0,#[],hT⟩,hsp H hS⟩) λr s' h=>?_
  cases r with
  |error e=>exact False.elim h
  |ok fl=>
   cases fl with
   |next=>exact False.elim h
   |brk=>exact False.elim h
   |cont=>exact False.elim h
   |ret u=>
    obtain⟨v,H',os,bare,un,hok',r',z⟩:=h;have z':v=.bl true:=z;subst z';obtain rfl:u=Value.bool true:=r';have tab:∃ps:Array Value,s'.heap.get? T=some { cls:=.none,data:=.fields ps }:=by
     obtain⟨m,e⟩:=un.tbls T _ hT;obtain⟨ps,_,_,_,g,_⟩:=(show zgm H' s'.heap T _ from hok' T _ e)
     exact⟨ps,g⟩
    have all:∀b o,s₁.heap.get? b=some o->s'.heap.get? b=some o\/b=T:=λb o e=>by
     rcases hA b with z|z |⟨z,_,ob,xs,z2⟩
     ·exact .inl (un.keep b o e z (by intro y;exact absurd (show b∈([]:List Addr) from y) (by simp)) (by simp))
     ·exact .inr z
     ·subst z;obtain⟨e1,_⟩:=(show ObjOk P w H s₁.heap b _ from hok b _ z2)
      obtain⟨e2,_⟩:=(show ObjOk P w H' s'.heap b _ from hok' b _ (un.frzs b ob _ z2))
      rw[e]at e1;cases e1;exact .inl e2
    obtain⟨ps,gp⟩:=tab;refine⟨rfl,⟨λb o e=>?_,λb o e=>?_⟩,os,bare⟩
    ·rcases all b o e with z|z
     ·exact .inl z
     ·subst z;rw[gT]at e
      cases e;exact .inr (.inl ⟨((hO.hd gc hcT).tab gT).isCodeTable,rfl,#[],ps,rfl,by rw[gp];simp⟩)
    ·rcases all b o e with z|z
     ·exact⟨o,z⟩
     ·subst z;exact⟨_,gp⟩
 have nTa:a≠T:=λz=>by rw[z,gT]at ha;cases ha
 have tk:∀H:Hp,zgm H s₁.heap T #[.str q 0]:=λH=>⟨#[],q,0,rfl,gT,trivial,λpos cv y=>by cases y⟩
 cases hk:K.lookup a with
 |some o=>
  have e:=KX a o hk;rw[ha]at e
  cases e;refine core (λb=>if b=T then some (.tbl #[.str q 0]) else none) (if_pos rfl) (.inr ⟨_,vs.toArray,_,hk,rfl,rfl,rfl,by rw[List.size_toArray,lenV];exact hl,by simpa using rv⟩) (λb u z=>?_) λb=>?_
  ·by_cases hb:b=T
   ·have z':=(if_pos hb).symm.trans z
    cases z';subst hb;exact tk _
   ·have z':=(if_neg hb).symm.trans z
    cases z'
  ·by_cases hb:b=T
   ·exact .inr (.inl hb)
   ·exact .inl (if_neg hb)
 |none=>
  have eT:(λb=>if b=T then some (HO.tbl #[.str q 0]) else if b=a then some (.frz { cls:=.type "list",data:=.seq vs.toArray } (.lst (ns.map V.int))) else none) T=some (.tbl #[.str q 0]):=if_pos rfl;have eA:(λb=>if b=T then some (HO.tbl #[.str q 0]) else if b=a then some (.frz { cls:=.type "list",data:=.seq vs.toArray } (.lst (ns.map V.int))) else none) a=some (.frz { cls:=.type "list",data:=.seq vs.toArray } (.lst (ns.map V.int))):=(if_neg nTa).trans (if_pos rfl);refine core (λb=>if b=T then some (HO.tbl #[.str q 0]) else if b=a then some (.frz { cls:=.type "list",data:=.seq vs.toArray } (.lst (ns.map V.int))) else none) eT (.inl (.inr ⟨{ cls:=.type "list",data:=.seq vs.toArray },eA⟩)) (λb u z=>?_) λb=>?_
  ·by_cases hb:b=T
   ·subst hb;rw[eT]at z
    cases z;exact tk _
   ·by_cases hb2:b=a
    ·subst hb2;rw[eA]at z
     cases z;exact⟨ha,by rw[List.length_map];exact hl,vs,_,rv,ha⟩
    ·have z':=((if_neg hb).trans (if_neg hb2)).symm.trans z
     cases z'
  ·by_cases hb:b=T
   ·exact .inr (.inl hb)
   ·by_cases hb2:b=a
    ·exact .inr (.inr ⟨hb2,hk,_,_,eA⟩)
    ·exact .inl ((if_neg hb).trans (if_neg hb2))
theorem walk_ofT{l:PySem.W.OpenLaw}{n k:Nat}{ql:Program}{loose:List Str}{XP:(Str->Option Value)->Heap->Prop}{YP:World->Heap->Prop}{d:DefRec}{K:Params->PySem.W.Frag}{sp:World->Sp}{x q:Str}{T:Addr}
  (hn:l.most=some n) (hn2:n<=sizeLine) (hdf:d.params.defaults = []) (hr:Room k callerA)
  (hY:∀(w:World) (h:Heap),YP w h->(K w.params).In h/\h.get? T=some zca)
  (F:∀(w:World) (mg:Str->Option Value) (fa:Addr) (h:Heap),(K w.params).In h->h.get? T=some zca->h.Ns mainGlobals mg->mg d.name=some (.ref fa) ->
   ∃fd:FuncData,(∀(s:Shared) (u:Value),BindsTo s fd ⟨[u],[]⟩ [(x,u)])/\∃(c:Addr) (oc:Obj),(K w.params).lookup c=some oc/\HdO oc T/\c≠T /\
    ∀base:Heap,(wl T (K w.params)).In base->base.Ns mainGlobals mg->jf mg base->PySem.W.CodeHd base c T->FnOk l.prog w (wl T (K w.params)) mg base CX0 k fa fd [x] (qf q T (sp w)))
  (hsp:∀(w:World) (H:Hp) (a:Addr) (ns:List Int),ns.length<=n->SqL (wl T (K w.params)) H a (ns.map V.int)->sp w [.ref a] H (λv _=>v=.bl true) λ_ _ _=>False) :
  PySem.W.WalkO ql loose XP YP l.row.toRowW d [] (λf vs=>PySem.call f vs):=by
 refine Att.attach_call hn hdf λw s₀ s₁ mg mb fa o pm cd doc a vs ns G Y ho hd hcd hmg hobj hints hlen hg=>?_;obtain⟨KX,gT⟩:=hY w _ Y;obtain⟨fd,hb,c,oc,lc,hO,ne,hF⟩:=F w mg fa _ KX gT G.T.g hmg;obtain⟨bm,ob,b1,b2,b3,b4,b5,b6⟩:=G.T.bmain;exact zlv (zkm KX) (zbs _) gT (KX _ _ lc) hO ne ⟨bm,ob,b1,b2,b3,b4,b5,b6⟩ G.T.g G.T.b G.T.builtins G.T.nolimit hg hobj hints (Nat.le_trans hlen hn2) hr hF hb (λH hS=>hsp w H a ns hlen hS)
end L2
namespace PySem
open Sem (wp)
section
variable {prog:Program}{w:World}{A:Around}{E:Value->Shared->Prop}{h:Heap}{g:Array GenState}{d:Drawn}{t:Nat}{os:OsState}
variable {nm q:Str}{C N:Addr}{bs bm bmB bmN:List Value}{hdct:Bool}{sn:List Str}{sub:List Value}{ab:Bool}{col:Option Bool}{dd:Option Addr}{k0 k1 k2 k3 k5:Option Value}{B Bn newId nid initId inN:String}
end
end PySem
namespace PySem
open Sem (wp)
open Builtin Builtin.ObjectAttr
section
variable {prog:Program}{w:World}{A:Around}{E:Value->Shared->Prop}{h:Heap}{g:Array GenState}{d:Drawn}{t:Nat}{os:OsState}
variable {nm q:Str}{C N x:Addr}{bs bm bmB:List Value}{sn:List Str}{sub:List Value}{ab:Bool}{col:Option Bool}{dd:Option Addr}{k0 k1 k2 k3 k5:Option Value}{B newId sa owner:String}
 {mA:Str->Option Value}{name:Str}{v:Value}
end
end PySem
namespace PySem
open Sem (wp)
section
variable {M:Model}{A:Around}{E:Value->Shared->Prop}{s:Shared}{env:Env}
variable {nm q:Str}{C N:Addr}{bs bm bmB bmN:List Value}{hdct:Bool}{sn:List Str}{sub:List Value}{ab:Bool}{col:Option Bool}{dd:Option Addr}{k0 k1 k2 k3 k5:Option Value}{B Bn newId nid initId inN:String}
end
section
variable {prog:Program}{w:World}{A:Around}{E:Value->Shared->Prop}{s:Shared}{env:Env}
variable {nm q:Str}{C N:Addr}{bs bm bmB bmN:List Value}{hdct:Bool}{sn:List Str}{sub:List Value}{ab:Bool}{col:Option Bool}{dd:Option Addr}{k0 k1 k2 k3 k5:Option Value}{B Bn newId nid initId inN:String}
end
end PySem
namespace L2
open PySem PySem.Spec PyProof.Rows
def ztq(K:PySem.W.Frag)(C:Addr)(bmB:List Value)(newId:String)(fI:Addr):Bool:=match K.lookup C with
 |some ⟨.type "type",_,.cls cd,sl⟩=>(match cd.mro,sl.toList with
  |.ref C'::bm,[_,_,_,_,some (.builtin n),_]=>C' == C && n == newId && !cd.hasDel && cd.hasDict && PySem.W.tailIn K bmB bm && PySem.W.nsOkIn K cd.ns && PySem.W.nsIn K cd.ns "__init__" == some (some (.ref fI))
  |_,_=>false)
 |_=>false
section
variable {X:Cx}{pins:List (Addr×Obj)}{σ:St}{H:Hp}{s:Shared}
end
def znv(C t:Addr)(od:Option Addr):Obj:={ cls:=.ref C,dict:=od,data:=.fields #[.ref t,.none,.none,.none,.bool false,.none] }
def ztr(C t:Addr)(od:Option Addr)(a:Addr):HO:=.ext λh=>h.get? a=some (znv C t od)
structure XI(X:Cx)(σ:St)(H:Hp)(s:Shared)(e C t:Addr)(od:Option Addr)(mA:Str->Option Value)(c:Nat):Prop where
 I:Inv X [] σ H s
 tr:H e=some (ztr C t od e)
 no:od=none->∀n,mA n=none
 ns:∀d,od=some d->d≠e/\s.heap.Ns1 d mA/\FpOk X [] H d
 few:∃ks,Within mA ks/\ks.length<=c
structure zxc(K:PySem.W.Frag)(C fI:Addr)(fs:List Str):Prop where
 cls:ztq K C [.type "ValueError",.type "Exception",.type "BaseException",.type "object"] "ValueError.__new__" fI=true
 sa:PySem.W.findIn K (.ref C) "__setattr__" = some (some (.builtin "object.__setattr__"))
 at_:∀f∈fs,PySem.W.findIn K (.ref C) f=some none
section
variable {X:Cx}{σ:St}{H:Hp}{s:Shared}{e C t fI:Addr}{od:Option Addr}{mA:Str->Option Value}{fs:List Str}{c:Nat}
theorem XI.ob(x:XI X σ H s e C t od mA c):s.heap.get? e=some (znv C t od):=(x.I.hok e _ x.tr).1
end
def zwx(fs:List Str)(ns:List Int):List (Str×V):=(fs.zip ns).map λp=>(p.1,V.int p.2)
def zp4(P:Program)(w:World)(outer:List Env)(H:Hp)(s s':Shared)(e C t:Addr)(fv:List (Str×V)):Prop :=
 ∃d H',s'.os=s.os/\AllBare s'.gens/\Un (frs outer) [] H H' s.heap s'.heap/\HOk P w H' s'.heap/\H' e=some (ztr C t (some d) e)/\H' d=some (.xd fv)/\But e H H'/\d≠e/\H d=none
structure zwy(P:Program)(w:World)(K:PySem.W.Frag)(mg:Str->Option Value)(base:Heap)(k:Nat)(C fI:Addr)(fs:List Str):Prop where
 run:∀(A:Around) (outer:List Env) (s:Shared) (H:Hp) (e t:Addr) (ns:List Int) (us:List Value),Room k A->Env0 P w K mg base A outer s H->H e=some (ztr C t none e)->Vals (ns.map V.int) us->ns.length=fs.length ->
  codeAny (model P w) A (.call (.ref fI) ⟨.ref e::us,[]⟩) (λr s'=>r=.ok (.ret .none)/\zp4 P w outer H s s' e C t (zwx fs ns)) s
section
variable {P:Program}{w:World}{K:PySem.W.Frag}{mg:Str->Option Value}{base:Heap}{k:Nat}{C fI:Addr}{fd:FuncData}{qual:Str}{st:Stmt}
end
section
variable {P:Program}{w:World}{K:PySem.W.Frag}{mg:Str->Option Value}{base:Heap}{N:List Str}{qual:Str}{scope:Scope}{f:Addr}{cd:Value}{A:Around}{outer:List Env}{s:Shared}{H:Hp}{E:XK}
end
end L2
namespace L2
open PySem PySem.Spec PyProof.Rows PySem.W
section
variable {prog:Program}{w:World}{A:Around}{E:Value->Shared->Prop}{s:Shared}{K:Frag}{x C:Addr}{ox:Obj}{od:Option Obj}{name:Str}{v:Value}
end
section
variable {X:Cx}{pos p:Pos}
end
end L2
namespace L2
open PySem PySem.Spec PyProof.Rows
section
variable {X:Cx}{e:Expr}{es rest:List Expr}{k k':Nat}{x:Str}{ps:List Str}{sp:DSp}{t:DTP}{p cpos:Pos}
end
section
variable {X:Cx}
variable {o e:Expr}{to te:DTE}{apos cpos:Pos}
end
section
variable {X:Cx}{pos p:Pos}
end
section
variable {X:Cx}{e:Expr}{pos p:Pos}
end
section
variable {X:Cx}{a b c d:Expr}{ta tb tc td:DTE}{pos:Pos}
def zfw(g g' g'':DOp)(ta tb tc td:DTE):DTE:=λσ Q=>ta σ λa=>tb σ λb=>g a b λz=>match z with
 |.bool k=>if k=true then tc σ λc=>g' b c λz=>match z with
  |.bool k=>if k=true then td σ λd=>g'' c d Q else Q (.bool false)
  |_=>False
  else Q (.bool false)
 |_=>False
theorem zlw{op op' op'':CmpOp}{g g' g'':DOp}(ho:OpD X (compareOp op) g)(ho':OpD X (compareOp op') g')(ho'':OpD X (compareOp op'') g'')(ha:DV X a ta)(hb:DV X b tb)(hc:DV X c tc)(hd:DV X d td)
  (hm:lastMarks [op,op',op''] [b,c,d]=false:=by with_unfolding_all rfl):DE X (.Compare a [op,op',op''] [b,c,d] pos) (zfw g g' g'' ta tb tc td):=⟨λpins s σ H H₀ σD Q I ok q=>by
 refine Compare_chain (thn (ha.run pins s σ H H₀ σD _ I ok q) λv s1 ⟨x,H1,d,I1,r1,sm1,p1,q1⟩=>chain_link (thn (hb.run pins s1 σ H1 H₀ σD _ I1 (ok.after sm1) q1) λu s2 ⟨y,H2,e,I2,r2,sm2,p2,q2⟩=>
  thn (ho.run pins s2 σ H2 x y v u d e _ I2 r1 r2 (p1.same sm2) p2 q2) λk s3 ⟨z,H3,dz,I3,r3,sm3,p3,q3⟩=>?_)) hm
 cases dz with
 |bool k=>
  cases p3
  cases r3;refine wpAny_truthy_bool ?_
  cases k with
  |false=>exact ite_ff ⟨.bl false,H3,.bool false,I3,rfl,(sm1.trans sm2).trans sm3,.bl,by simpa using q3⟩
  |true=>
   have sm:=(sm1.trans sm2).trans sm3;simp only[reduceIte]at q3;refine ite_tt (chain_link (thn (hc.run pins s3 σ H3 H₀ σD _ I3 (ok.after sm) q3) λw' s4 ⟨z',H4,f,I4,r4,sm4,p4,q4⟩=>
    thn (ho'.run pins s4 σ H4 y z' u w' e f _ I4 r2 r4 ((p2.same sm3).same sm4) p4 q4) λk s5 ⟨z5,H5,dz5,I5,r5,sm5,p5,q5⟩=>?_))
   cases dz5 with
   |bool k=>
    cases p5
    cases r5;refine wpAny_truthy_bool ?_
    cases k with
    |false=>exact ite_ff ⟨.bl false,H5,.bool false,I5,rfl,(sm.trans sm4).trans sm5,.bl,by simpa using q5⟩
    |true=>
     simp only[reduceIte]at q5;refine ite_tt (chain_last (thn (hd.run pins s5 σ H5 H₀ σD _ I5 (ok.after ((sm.trans sm4).trans sm5)) q5) λw6 s6 ⟨z6,H6,f6,I6,r6,sm6,p6,q6⟩=>?_));exact thn (ho''.run pins s6 σ H6 z' z6 w' w6 f f6 Q I6 r4 r6 ((p4.same sm5).same sm6) p6 q6) λ_ _ z=>z.back (((sm.trans sm4).trans sm5).trans sm6)
   |_=>exact q5.elim
 |_=>exact q3.elim⟩
end
section
variable {X:Cx}
def zwz(X:Cx)(t:DTS):TS:=λE σ H=>∃σD Dn,DOk X.K X.H₀ H σD σ/\t Dn σD/\(∀σ' H' σD',DOk X.K X.H₀ H' σD' σ'->Pers H H'->Dn.nx σD'->E.nx σ' H')/\(∀v H' r,Same X.H₀ H'->zfo X.K X.H₀ H' r v->Dn.rt r->E.rt v H') /\
 (∀σ' H' σD',DOk X.K X.H₀ H' σD' σ'->Pers H H'->Dn.bk σD'->E.bk σ' H')/\∀σ' H' σD',DOk X.K X.H₀ H' σD' σ'->Pers H H'->Dn.ct σD'->E.ct σ' H'
theorem DSXs.ps{sts:List Stmt}{t:DTS}(h:DSXs X sts t):PSs X sts (zwz X t):=λpins s σ H E I ⟨σD,Dn,ok,q,k1,k2,k3,k4⟩=>thn (h.run pins s σ H σD Dn I ok q) λf s' z=>by
 cases f with
 |next=>obtain⟨a,b,c,e1,e2,e3,e4⟩:=z;exact⟨a,b,e1,k1 a b c e2 e3 e4⟩
 |brk=>obtain⟨a,b,c,e1,e2,e3,e4⟩:=z;exact⟨a,b,e1,k3 a b c e2 e3 e4⟩
 |cont=>obtain⟨a,b,c,e1,e2,e3,e4⟩:=z;exact⟨a,b,e1,k4 a b c e2 e3 e4⟩
 |ret u=>obtain⟨v,a,b,r,e1,e2,e3,e4,e5⟩:=z;exact⟨v,a,b,e1,e2,k2 v b r e3 e4 e5⟩
theorem DSX.of{st:Stmt}{t:DTS}{t':TS}(h:PS X st t')(k:∀σ H σD Dn,DOk X.K X.H₀ H σD σ->t Dn σD->t' (zm3 X.K X.H₀ H Dn) σ H):DSX X st t :=
 ⟨λpins s σ H σD Dn I ok q=>thn (h pins s σ H _ I (k σ H σD Dn ok q)) λ_ _ z=>z.dsp⟩
end
section
variable {X:Cx}{pins:List (Addr×Obj)}{σ:St}{H:Hp}{s:Shared}
end
end L2
namespace PySem
section
variable {prog:Program}{w:World}{A:Around}{E:Value->Shared->Prop}{s:Shared}
theorem zdf{l:Addr}{items:Array Value}{ns:List Int}{Q:Value->Shared->Prop}
  (hh:A.handled=none) (hl:s.heap.IsList l items) (hi:PyProof.Rows.IntsAre items.toList ns) (hb:items.size+1<scanBound)
  (h:∀(h':Heap) (tk:Nat),h'.SetV (intKind prog w) s.heap.objs.size (λk'=>(PyProof.Rows.firstMet (λi=>ns.getD i 0) items.size).any (· == k')) (PyProof.Rows.firstMet (λi=>ns.getD i 0) items.size).length ->
   (∀b o,b<s.heap.objs.size->s.heap.get? b=some o->h'.get? b=some o)->Q (.ref s.heap.objs.size) { s with heap:=h',toks:=tk }) :
  wpAny (model prog w) A (call (.type "set") [.ref l]) Q E s:=by
 obtain⟨c,tl,hmro⟩:=F.called_set.mro;have hmade:=F.called_set.made;have hsub:=F.called_set.sub;refine wpAny_call (codeAny_of_tree ?_);show wpAny _ _ (callAny (.type "set") _) _ _ _;refine wpAny_pure ⟨Code.quiet_builtin _ (by decide +kernel),codeAny_builtin F.entry_type_call ?_⟩;rw[Around.under_plain (weight_type_call_type "set" [.ref l] []) rfl];have h1:=F.called_set.notType;have h2:=F.called_set.canCreate;have hct:=F.typeCall_set_1 (.ref l)
 repeat (any_goals (first|assumption|wp_step))
 refine codeAny_mono (zb9 (.ref l) (E:=E) (Q₁:=λobj s₁=>∃led:Bool,led = !w.params.followText "set-order" /\ obj=.ref s.heap.objs.size/\s₁ = { s with heap:=s.heap.push { cls:=.type "set",dict:=none,data:=.set #[] 0 (.fresh 0 0 led) } }) ⟨_,rfl,rfl,rfl⟩) λr s₁ hr=>?_
 cases r with
 |error e=>exact hr
 |ok fl=>
  cases fl with
  |ret obj=>
   obtain⟨led,hled,rfl,rfl⟩:=hr;have hS:(s.heap.push { cls:=.type "set",dict:=none,data:=.set #[] 0 (.fresh 0 0 led) }).get? s.heap.objs.size=some { cls:=.type "set",dict:=none,data:=.set #[] 0 (.fresh 0 0 led) }:=Heap.get?_push_size _ rfl;have hT:Shared.TypeIs { s with heap:=s.heap.push { cls:=.type "set",dict:=none,data:=.set #[] 0 (.fresh 0 0 led) } } (.ref s.heap.objs.size) "set" :=⟨_,hS,rfl⟩
   have hli:=F.called_set.init.lookup;have hbi:=F.called_set.init.bind (.ref s.heap.objs.size)
   repeat (any_goals (first|assumption|wp_step))
   refine codeAny_mono (codeAny_call_builtin (R:=wants (λr s₂=>r=.none/\∃h' tk,s₂ = { s with heap:=h',toks:=tk } /\
     h'.SetV (intKind prog w) s.heap.objs.size (λk'=>(PyProof.Rows.firstMet (λi=>ns.getD i 0) items.size).any (· == k')) (PyProof.Rows.firstMet (λi=>ns.getD i 0) items.size).length /\
     (∀b o,b<s.heap.objs.size->s.heap.get? b=some o->h'.get? b=some o)) E) F.called_set.init.plain F.entry_set_init (check_set_init_1 hT ?_)) λr₂ s₂ hr₂=>?_
   ·obtain⟨ol,hol,hcl,nl,hdl⟩:=hl;obtain⟨ocls,odict,odata,oslots⟩:=ol;simp only at hcl hdl;subst hcl;subst hdl;have hol':(s.heap.push { cls:=.type "set",dict:=none,data:=.set #[] 0 (.fresh 0 0 led) }).get? l=some { cls:=.type "list",dict:=odict,data:=.seq items nl,slots:=oslots }:=Heap.get?_push_of_some _ hol;have hsls:=F.sub_list_set;have hslf:=F.sub_list_frozenset;have hne:(Value.type "list" == Value.type "dict")=false:=by decide
    have hl1:(s.heap.push { cls:=.type "set",dict:=none,data:=.set #[] 0 (.fresh 0 0 led) }).IsList l items:=⟨_,hol',rfl,nl,rfl⟩
    unfold Builtin.«set.__init__» noKeywords Builtin.Frozenset.updateFrom;generalize hPI:pyIter=PI
    wp_walk
    subst hPI;refine wpAny_pyIter_list hl1 ?_;refine wpAny_bind (wpAny_runValue ?_);have hlS:l<s.heap.objs.size:=Heap.lt_size hol;have hh3:A.in1.in1.in1.handled=none:=by simp[hh]
    have hneI:l≠(s.heap.push { cls:=.type "set",dict:=none,data:=.set #[] 0 (.fresh 0 0 led) }).objs.size:=by
     rw[Heap.size_push];exact Nat.ne_of_lt (Nat.lt_succ_of_lt hlS)
    have hSf:s.heap.objs.size ∉ [(s.heap.push { cls:=.type "set",dict:=none,data:=.set #[] 0 (.fresh 0 0 led) }).objs.size,l]:=by
     rw[Heap.size_push];simp only[List.mem_cons,List.mem_singleton,List.not_mem_nil,or_false,not_or];exact⟨Nat.ne_of_lt (Nat.lt_succ_self _),Nat.ne_of_gt hlS⟩
    have hval:∀(i:Nat) (v:Value),items[i]?=some v->∃t,v=.int ((λi=>ns.getD i 0) i) t:=λi v hv=>
     PyProof.Rows.IntsAre.int_at hi i v (by rw[Array.getElem?_toList];exact hv)
    refine qa ((Walks.list hh3 _ l hneI items).toS) s.heap.objs.size
     hSf (λi=>ns.getD i 0) hval hb (items.size-0) 0 _ (by omega) (Nat.zero_le _)
     ⟨⟨_,Heap.get?_push_size _ rfl,rfl,rfl⟩,(hl1.push _)⟩ ?hS0 ?hR
    case hS0=>
     have hget:((s.heap.push { cls:=.type "set",dict:=none,data:=.set #[] 0 (.fresh 0 0 led) }).push { cls:=.type "list_iterator",data:=.fields #[.ref l,.int 0 0] }).get? s.heap.objs.size
       = some { cls:=.type "set",dict:=none,data:=.set #[] 0 (.fresh 0 0 led) }:=Heap.get?_push_of_some _ hS
     exact⟨_,#[],0,_,hget,⟨rfl,rfl,rfl⟩,rfl,λe he=>by simp at he,λk=>by simp[PyProof.Rows.firstMet],by decide,by rfl,rfl,⟨List.Pairwise.nil,hled⟩⟩
    case hR=>
     intro s' hm hS';obtain⟨h',g',d',tk',os'⟩:=s';have eg:g'=s.gens:=hm.gens;have ed:d'=s.drawn:=hm.drawn;have eo:os'=s.os:=hm.os;subst eg;subst ed;subst eo;show wpAny _ _ _ _ _ _;refine wpAny_pure ?_;show wpAny _ _ (ret Value.none) _ _ _;refine wpAny_pure ⟨rfl,h',tk',rfl,hS',λb o hb e=>?_⟩;have hb1:b≠s.heap.objs.size:=Nat.ne_of_lt hb;have hb2:b≠(s.heap.push { cls:=.type "set",dict:=none,data:=.set #[] 0 (.fresh 0 0 led) }).objs.size:=by
      rw[Heap.size_push];exact Nat.ne_of_lt (Nat.lt_succ_of_lt hb)
     exact hm.heap b o (by simp only[List.mem_cons,List.mem_singleton,List.not_mem_nil,or_false,not_or];exact⟨hb1,hb2⟩) (Heap.get?_push_of_some _ (Heap.get?_push_of_some _ e))
   ·cases r₂ with
    |error e=>exact hr₂
    |ok fl₂=>
     cases fl₂ with
     |ret r=>
      obtain⟨rfl,h',tk,rfl,hS',hk'⟩:=hr₂
      repeat (any_goals (first|assumption|wp_step))
      exact h _ _ hS' hk'
     |_=>exact hr₂.elim
  |_=>exact hr.elim
end
end PySem
namespace L2
open PySem PySem.Spec PyProof.Rows SQ
section
variable {X:Cx}{a:Expr}{p pos p2 pos2:Pos}
end
end L2
namespace L2
open PySem PySem.Spec PyProof.Rows
section
variable {X:Cx}{pos p:Pos}
end
section
variable {prog:Program}{w:World}{A:Around}{R:Result->Shared->Prop}{s:Shared}{elt t1 i1 t2 i2:Expr}{f1 f2:List Expr}{scope:Scope}{pos:Pos}{it acc:Value}{env:Env}
abbrev LC2(elt t1 i1 t2 i2:Expr)(f1 f2:List Expr)(scope:Scope)(pos:Pos):Expr:=.ListComp elt [⟨t1,i1,f1,0⟩,⟨t2,i2,f2,0⟩] scope pos
theorem zvo(elt t1 i1 t2 i2:Expr)(f1 f2:List Expr)(scope:Scope)(pos:Pos)(it acc:Value)(env:Env):compTurn (LC2 elt t1 i1 t2 i2 f1 f2 scope pos) 0 it acc env=(do
  standAt i1.pos
  match <-pyNext it with
  |none=>pure (.done .next)
  |some v=>
   letOwnedTupleGo t1 it v
   assign t1 env v
   let mut ok:=true
   for c in f1 do
    if ok then ok <-isTrue c env (eval c env)
   if ok then
    let x <-eval i2 env
    standAt i2.pos
    let x <-foldedSetIterable i2 env x
    let _ <-runOwn (.compStart (LC2 elt t1 i1 t2 i2 f1 f2 scope pos) 1 (<-holding [x] (pyIter x)) acc env) env
   again (.compLoop (LC2 elt t1 i1 t2 i2 f1 f2 scope pos) 0 it acc env)):=by rfl
theorem zvp(elt t1 i1 t2 i2:Expr)(f1 f2:List Expr)(scope:Scope)(pos:Pos)(it acc:Value)(env:Env):compTurn (LC2 elt t1 i1 t2 i2 f1 f2 scope pos) 1 it acc env=(do
  standAt i2.pos
  match <-pyNext it with
  |none=>pure (.done .next)
  |some v=>
   letOwnedTupleGo t2 it v
   assign t2 env v
   let mut ok:=true
   for c in f2 do
    if ok then ok <-isTrue c env (eval c env)
   if ok then
    (do let _ <-call (.builtin "list.append") [acc,<-eval elt env])
   again (.compLoop (LC2 elt t1 i1 t2 i2 f1 f2 scope pos) 1 it acc env)):=by rfl
theorem zlx(I:Nat->Shared->Prop)
  (turn:∀n s,I n s->wpAny (model prog w) A (pyNext it) (λr s1=>match r with
   |none=>R (.ok .next) s1
   |some v=>wpAny (model prog w) A (letOwnedTupleGo t2 it v) (λ_ s1'=>wpAny (model prog w) A (assign t2 env v) (λ_ s2=>
     wpAny (model prog w) A (forIn f2 true λc r=>if r=true then do let ok <-isTrue c env (eval c env);pure (ForInStep.yield ok) else pure (ForInStep.yield r)) (λok s3=>
      if ok=true then wpAny (model prog w) A (eval elt env) (λx s4=>
       wpAny (model prog w) A (call (.builtin "list.append") [acc,x]) (λ_ s5=>∃m,m<n/\I m s5) (λ_ _=>False) s4) (λ_ _=>False) s3
      else ∃m,m<n/\I m s3) (λ_ _=>False) s2) (λ_ _=>False) s1') (λ_ _=>False) s1) (λ_ _=>False) s)
  (n:Nat) (h:I n s):codeAny (model prog w) A (.compLoop (LC2 elt t1 i1 t2 i2 f1 f2 scope pos) 1 it acc env) R s:=by
 refine codeAny_loop rfl I (λn s hI=>?_) n h;show wpAny _ A ((compTurn (LC2 elt t1 i1 t2 i2 f1 f2 scope pos) 1 it acc env).onRaise (λx=>do noteFrame x env;theTreesLotGoes x)) _ _ s;refine wpAny_noted ?_;rw[zvp];refine wpAny_bind (wpAny_standAt (wpAny_bind (wpAny_mono (turn n s hI) (λr s1 h1=>?_) λ_ _ h'=>h'.elim)))
 cases r with
 |none=>exact wpAny_pure h1
 |some v=>
  refine wpAny_bind (wpAny_mono h1 (λ_ s1' h1'=>?_) λ_ _ h'=>h'.elim);refine wpAny_bind (wpAny_mono h1' (λ_ s2 h2=>wpAny_bind (wpAny_mono h2 (λok s3 h3=>?_) λ_ _ h'=>h'.elim)) λ_ _ h'=>h'.elim)
  cases ok with
  |false=>exact wpAny_pure ⟨rfl,h3⟩
  |true=>exact wpAny_bind (wpAny_bind (wpAny_mono h3 (λx s4 h4=>wpAny_bind (wpAny_mono h4 (λ_ s5 h5=>wpAny_pure (wpAny_pure ⟨rfl,h5⟩)) λ_ _ h'=>h'.elim)) λ_ _ h'=>h'.elim))
theorem zts(h0:codeAny (model prog w) A (.compLoop (LC2 elt t1 i1 t2 i2 f1 f2 scope pos) 1 it acc env) R s)
  (h:wpAny (model prog w) A (pyIter it) (λit' s'=>codeAny (model prog w) A (.compLoop (LC2 elt t1 i1 t2 i2 f1 f2 scope pos) 1 it' acc env) R s') (λ_ _=>False) s) :
  codeAny (model prog w) A (.compStart (LC2 elt t1 i1 t2 i2 f1 f2 scope pos) 1 it acc env) R s:=by
 refine codeAny_of_tree ?_;show wpAny _ _ ((compStart (LC2 elt t1 i1 t2 i2 f1 f2 scope pos) 1 it acc env).onRaise (λx=>do noteFrame x env;standAt theWindowsPlace)) _ _ s;refine wpAny_notedAt ?_;unfold compStart;show wpAny _ _ (ask >>= _) _ _ s;refine wpAny_bind (wpAny_askSetting (wpAny_ite ?_))
 split
 ·first
   |exact wpAny_bind (wpAny_pure (wpAny_pure (And.intro rfl h0)))
   |exact wpAny_pure (And.intro rfl h0)
 ·refine wpAny_bind (wpAny_rule ?_);show wpAny _ _ (standAt i2.pos >>= _) _ _ s;exact wpAny_bind (wpAny_standAt (wpAny_bind (wpAny_mono h (λit' s' h'=>wpAny_pure (And.intro rfl h')) λ_ _ x=>x.elim)))
theorem zly(I:Nat->Shared->Prop)(hs:∀x,foldedSetIterable i2 env x=pure x)
  (turn:∀n s,I n s->wpAny (model prog w) A (pyNext it) (λr s1=>match r with
   |none=>R (.ok .next) s1
   |some v=>wpAny (model prog w) A (letOwnedTupleGo t1 it v) (λ_ s1'=>wpAny (model prog w) A (assign t1 env v) (λ_ s2=>
     wpAny (model prog w) A (forIn f1 true λc r=>if r=true then do let ok <-isTrue c env (eval c env);pure (ForInStep.yield ok) else pure (ForInStep.yield r)) (λok s3=>
      if ok=true then wpAny (model prog w) A (eval i2 env) (λx s4=>wpAny (model prog w) A (pyIter x) (λit2 s5=>
       codeAny (model prog w) A (.compStart (LC2 elt t1 i1 t2 i2 f1 f2 scope pos) 1 it2 acc env) (λr s6=>match r with|.ok _=>∃m,m<n/\I m s6|.error _=>False) s5) (λ_ _=>False) s4) (λ_ _=>False) s3
      else ∃m,m<n/\I m s3) (λ_ _=>False) s2) (λ_ _=>False) s1') (λ_ _=>False) s1) (λ_ _=>False) s)
  (n:Nat) (h:I n s):codeAny (model prog w) A (.compLoop (LC2 elt t1 i1 t2 i2 f1 f2 scope pos) 0 it acc env) R s:=by
 refine codeAny_loop rfl I (λn s hI=>?_) n h;show wpAny _ A ((compTurn (LC2 elt t1 i1 t2 i2 f1 f2 scope pos) 0 it acc env).onRaise (λx=>do noteFrame x env;theTreesLotGoes x)) _ _ s;refine wpAny_noted ?_;rw[zvo];refine wpAny_bind (wpAny_standAt (wpAny_bind (wpAny_mono (turn n s hI) (λr s1 h1=>?_) λ_ _ h'=>h'.elim)))
 cases r with
 |none=>exact wpAny_pure h1
 |some v=>
  refine wpAny_bind (wpAny_mono h1 (λ_ s1' h1'=>?_) λ_ _ h'=>h'.elim);refine wpAny_bind (wpAny_mono h1' (λ_ s2 h2=>wpAny_bind (wpAny_mono h2 (λok s3 h3=>?_) λ_ _ h'=>h'.elim)) λ_ _ h'=>h'.elim)
  cases ok with
  |false=>exact wpAny_pure ⟨rfl,h3⟩
  |true=>
   refine wpAny_bind (wpAny_mono h3 (λx s4 h4=>?_) λ_ _ h'=>h'.elim);refine wpAny_bind (wpAny_standAt ?_);rw[hs x];refine wpAny_bind (wpAny_pure (wpAny_bind (wpAny_holding (wpAny_mono h4 (λit2 s5 h5=>?_) λ_ _ h'=>h'.elim))));refine wpAny_bind (wpAny_runOwn ?_);refine codeAny_mono h5 λr s6 h6=>?_
   cases r with
   |ok f=>exact wpAny_pure ⟨rfl,h6⟩
   |error e=>exact h6.elim
end
section
variable {X:Cx}
def zdg(J:It)(D:Addr)(g:TG)(tt:TT)(wi2:TI)(g2:TG)(tt2:TT)(te:TE)(σ0:St)(H1:Hp)(Q:VK):Prop :=
 ∃W:Nat->Nat->St->Hp->Prop,(∃m,W 0 m σ0 (upd H1 D (.lst [])))/\∀i m σ H,W i m σ H ->
  (J.stop i H/\Q (.ref D) H)\/(J.go i H/\∀x H',J.yld i H x H'->g x σ H' λσ2 H2=>tt σ2 H2 λb H3=>
   if b=true then wi2 σ2 H3 λJ2 H4=>∃W2:Nat->Nat->St->Hp->Prop,(∃m2,W2 0 m2 σ2 H4)/\∀i2 n2 σ' H',W2 i2 n2 σ' H' ->
    (J2.stop i2 H'/\∃m',m' < m/\W (i+1) m' σ' H')\/(J2.go i2 H'/\∀x H5,J2.yld i2 H' x H5->g2 x σ' H5 λσ6 H6=>tt2 σ6 H6 λb H7=>
     if b=true then te σ6 H7 λy H8=>∃ys,H8 D=some (.lst ys)/\ys.length<sizeLine/\∃m',m' < n2/\W2 (i2+1) m' σ6 (upd H8 D (.lst (ys ++ [y])))
     else ∃m',m' < n2/\W2 (i2+1) m' σ6 H7)
   else ∃m',m' < m/\W (i+1) m' σ2 H3)
def zvq(k:Nat)(js:List Nat)(wi:TI)(g:TG)(tt:TT)(wi2:TI)(g2:TG)(tt2:TT)(te:TE):TE:=λσ H Q=>wi σ H λJ H1=>∀D,H1 D=none->zdg J D g tt wi2 g2 tt2 te (y8 k js σ) H1 Q
theorem ztt{elt t1 i1 t2 i2:Expr}{f1 f2:List Expr}{scope:Scope}{pos:Pos}{cl:List (Str×Addr)}{N':List Str}{C:Addr}{fp:List Addr}{s2:Shared}{H2:Hp}{g2:TG}{tt2:TT}{te:TE}{D:Addr}
  (hg:PG (yj X N' scope cl C fp s2 H2) t2 g2) (ht:PTs (yj X N' scope cl C fp s2 H2) f2 tt2) (he:PE (yj X N' scope cl C fp s2 H2) elt te)
  {pins:List (Addr×Obj)}{σ:St}{H:Hp}{s:Shared}{J:It}{fq:List Addr}{it:Addr}{tn:Nat->Heap->Prop}{W:Nat->Nat->St->Hp->Prop}{Z:St->Hp->Prop}{m0:Nat}
  (I:Inv (yj X N' scope cl C fp s2 H2) pins σ H s) (T:ze7 X.prog X.w X.K t2 J fq it tn) (st:tn 0 s.heap) (f:∀b∈fq,FpOk (yj X N' scope cl C fp s2 H2) pins H b) (w0:W 0 m0 σ H)
  (turn:∀i n σ' H',W i n σ' H'->(J.stop i H'/\Z σ' H')\/(J.go i H'/\∀x H5,J.yld i H' x H5->g2 x σ' H5 λσ6 H6=>tt2 σ6 H6 λb H7=>
   if b=true then te σ6 H7 λy H8=>∃ys,H8 D=some (.lst ys)/\ys.length<sizeLine/\∃m',m' < n/\W (i+1) m' σ6 (upd H8 D (.lst (ys ++ [y]))) else ∃m',m' < n/\W (i+1) m' σ6 H7)) :
  codeAny (model X.prog X.w) X.A (.compLoop (LC2 elt t1 i1 t2 i2 f1 f2 scope pos) 1 (.ref it) (.ref D) (compEnvC scope cl C X.env)) (λr s'=>match r with|.ok _=>∃σ' H',Inv (yj X N' scope cl C fp s2 H2) pins σ' H' s'/\Z σ' H'|.error _=>False) s:=by
 have stat:∀{H':Hp},(∀b∈fq,H' b=none)->∀b∈fq,FpOk (yj X N' scope cl C fp s2 H2) pins H' b:=λhn b hb=>⟨hn b hb,(f b hb).2⟩
 refine zlx (λn s'=>∃i σ' H',Inv (yj X N' scope cl C fp s2 H2) pins σ' H' s'/\tn i s'.heap/\(∀b∈fq,H' b=none)/\W i n σ' H') ?_ m0 ⟨0,_,_,I,st,λb hb=>(f b hb).1,w0⟩;rintro n s3 ⟨i,σ3,H3,I3,st3,fr3,w3⟩;rcases turn i n σ3 H3 w3 with⟨stop,qn⟩ |⟨go,step⟩
 ·refine thn (T.done (yj X N' scope cl C fp s2 H2) rfl rfl rfl rfl i pins s3 σ3 H3 (λ_ _=>False) I3 (stat fr3) st3 stop) λr s4 ⟨hr,J4⟩=>?_;subst hr;exact⟨σ3,H3,J4,qn⟩
 ·refine thn (T.item (yj X N' scope cl C fp s2 H2) rfl rfl rfl rfl i pins s3 σ3 H3 (λ_ _=>False) I3 (stat fr3) st3 go) λr s4 ⟨u,hr,h4⟩=>?_;subst hr;refine thn h4 λ_ s5 ⟨x,H5,I5,r5,y5,st5,fr5⟩=>?_;have I5':=I5.pinned (stat fr5) (T.obj _ _ st5);refine thn (hg _ s5 σ3 H5 x u _ I5' r5 (step x H5 y5)) λ_ s6 ⟨σ6,H6,I6,q6⟩=>?_;refine thn (ht _ s6 σ6 H6 _ I6 q6) λok s7 ⟨H7,I7,q7⟩=>?_
  have again:∀{H8:Hp}{s8:Shared},Inv (yj X N' scope cl C fp s2 H2) (pins++j1 fq s5.heap) σ6 H8 s8->(∃m',m' < n/\W (i+1) m' σ6 H8)->∃m,m<n/\∃i σ' H',Inv (yj X N' scope cl C fp s2 H2) pins σ' H' s8/\tn i s8.heap/\(∀b∈fq,H' b=none)/\W i m σ' H':=λ{H8 s8} I8 n8=>by
   obtain⟨m',hm,w8⟩:=n8;refine⟨m',hm,i+1,σ6,H8,I8.unpinned,T.keep _ _ _ st5 λb hb o e=>(I8.pin (b,o) (List.mem_append_right _ (List.mem_append_right _ (x9 hb e)))).1,λb hb=>?_,w8⟩;obtain⟨o,e,d⟩:=T.obj _ _ st5 b hb;exact(I8.pin (b,o) (List.mem_append_right _ (List.mem_append_right _ (x9 hb e)))).2.1
  cases ok with
  |false=>
   rw[if_neg Bool.false_ne_true]at q7;exact again I7 q7
  |true=>
   rw[if_pos rfl]at q7;refine thn (he _ s7 σ6 H7 _ I7 q7) λy s8 ⟨v8,H8,I8,r8,q8⟩=>?_;obtain⟨ys,e8,z8,w8⟩:=q8;refine thn (zba (X:=yj X N' scope cl C fp s2 H2) _ s8 σ6 H8 (.ref D) [v8] (.ref D) [y] (λv H=>∃m',m' < n/\W (i+1) m' σ6 H) I8 rfl (.cons r8 .nil) ⟨D,ys,v8,rfl,rfl,e8,z8,w8⟩) λ_ s9 ⟨v9,H9,I9,_,w9⟩=>?_;exact again I9 w9
theorem zlz{elt tg iter t2 i2:Expr}{ifs ifs2:List Expr}{wi2:TI}{g2:TG}{tt2:TT}{scope:Scope}{pos:Pos}{cl:List (Str×Addr)}{N' capt:List Str}{k:Nat}{js:List Nat}{g:TG}{tt:TT}{te:TE}{J:It}{fp:List Addr}{tn:Nat->Heap->Prop}{it:Addr}
  {pins:List (Addr×Obj)}{σ:St}{H2:Hp}{s2:Shared}{Q:VK}{E:Value->Shared->Prop} (hc:X.calm=true) (L:zd6 X scope cl N' capt k js)
  (hg:∀C fp s2 H2,PG (yj X N' scope cl C fp s2 H2) tg g) (ht:∀C fp s2 H2,PTs (yj X N' scope cl C fp s2 H2) ifs tt) (hi2:∀C fp s2 H2,PI (yj X N' scope cl C fp s2 H2) t2 i2 wi2) (hg2:∀C fp s2 H2,PG (yj X N' scope cl C fp s2 H2) t2 g2) (ht2:∀C fp s2 H2,PTs (yj X N' scope cl C fp s2 H2) ifs2 tt2) (he:∀C fp s2 H2,PE (yj X N' scope cl C fp s2 H2) elt te) (hs2:∀C x,foldedSetIterable i2 (compEnvC scope cl C X.env) x=pure x)
  (I2:Inv X pins σ H2 s2) (T:ze7 X.prog X.w X.K tg J fp it tn) (st2:tn 0 s2.heap) (f2:∀b∈fp,FpOk X pins H2 b) (q:∀D,H2 D=none->zdg J D g tt wi2 g2 tt2 te (y8 k js σ) H2 Q) :
  wpAny (model X.prog X.w) X.A (newList []) (λacc s3=>wpAny (model X.prog X.w) X.A (newFunctionEnv scope X.env.globals cl [] X.env.qual none .none (some X.env)) (λcenv s4=>
   codeAny (model X.prog X.w) X.A (.compStart (LC2 elt tg iter t2 i2 ifs ifs2 scope pos) 0 (.ref it) acc { cenv with scope:=relabel scope X.env }) (LcEnd X pins σ Q acc cenv.locals) s4) E s3) E s2:=by
 refine wpAny_newObj_type (wpAny_newFunctionEnv L.cell (by intro y hy;simp at hy) (λh₁ hns₁ hsb₁=>?_) L.kind);dsimp only at hns₁ hsb₁ ⊢;generalize hH2:s2.heap.push { cls:=.type "list",dict:=none,data:=.seq ([]:List Value).toArray }=G at hns₁ hsb₁ ⊢;have hC:G.objs.size=s2.heap.objs.size+1:=by rw[<-hH2,Heap.size_push]
 have hDC:s2.heap.objs.size≠G.objs.size:=by rw[hC];exact Nat.ne_of_lt (Nat.lt_succ_self _)
 have hCle:s2.heap.objs.size<=G.objs.size:=by rw[hC];exact Nat.le_succ _
 have below:∀b,b<s2.heap.objs.size->b≠G.objs.size:=λb hb=>by rw[hC];exact Nat.ne_of_lt (Nat.lt_succ_of_lt hb)
 have keep:∀b o,s2.heap.get? b=some o->h₁.get? b=some o:=λb o e=>hsb₁.extBut b o (below b (Heap.lt_size e)) (Heap.get?_push_of_some _ (hH2 ▸ Heap.get?_push_of_some _ e));have hl:h₁.get? s2.heap.objs.size=some { cls:=.type "list",data:=.seq #[] 0 }:=hsb₁.extBut _ _ hDC (Heap.get?_push_of_some _ (hH2 ▸ Heap.get?_push_size _ rfl));have ho2:=T.obj _ _ st2;have ok:(yj X N' scope cl G.objs.size fp s2 H2).Ok:=zqx I2 hc L.kind hCle L.sub L.has f2 ho2;generalize hD:s2.heap.objs.size=D at hl hDC ⊢;generalize hCC:G.objs.size=C at hns₁ hsb₁ hDC hC hCle below ok ⊢;have hDle:s2.heap.objs.size<=D:=by rw[hD];exact Nat.le_refl _
 have I4:Inv (yj X N' scope cl C fp s2 H2) [] (y8 k js σ) (upd H2 D (.lst [])) { s2 with heap:=h₁,toks:=s2.toks+([]:List (Str×Value)).length } :=
  zgt I2 ok hDle hCle hDC keep hns₁ hl L.sub L.cap L.hN L.hk
 obtain⟨W,⟨m0,w0⟩,turn⟩:=q D (I2.hok.fresh hDle);have tn0:tn 0 h₁:=T.keep _ _ _ st2 λb _ o e=>keep b o e;have fr0:∀b∈fp,upd H2 D (.lst []) b=none:=λb hb=>by
  obtain⟨o,e,_⟩:=ho2 b hb;rw[zw (Nat.ne_of_lt (Nat.lt_of_lt_of_le (Heap.lt_size e) hDle))];exact(f2 b hb).1
 have stat:∀{H':Hp},(∀b∈fp,H' b=none)->∀b∈fp,FpOk (yj X N' scope cl C fp s2 H2) [] H' b:=λhn b hb=>by
  refine⟨hn b hb,(ok.exf b hb).1,ok.exfs b hb,.inl hb,(ok.exf b hb).2,λp hp=>absurd (show p∈([]:List (Addr×Obj)) from hp) (by simp)⟩
 have loop:∀s₃:Shared,s₃ = { s2 with heap:=h₁,toks:=s2.toks+([]:List (Str×Value)).length } ->
   codeAny (model X.prog X.w) X.A (.compLoop (LC2 elt tg iter t2 i2 ifs ifs2 scope pos) 0 (.ref it) (.ref D) (compEnvC scope cl C X.env)) (LcEnd X pins σ Q (.ref D) C) s₃:=by
  rintro s₃ rfl;refine zly (λn s'=>∃i σ' H',Inv (yj X N' scope cl C fp s2 H2) [] σ' H' s'/\tn i s'.heap/\(∀b∈fp,H' b=none)/\W i n σ' H') (hs2 C) ?_ m0 ⟨0,_,_,I4,tn0,fr0,w0⟩;rintro n s3 ⟨i,σ3,H3,I3,st3,fr3,w3⟩;rcases turn i n σ3 H3 w3 with⟨stop,qn⟩ |⟨go,step⟩
  ·refine thn (T.done (yj X N' scope cl C fp s2 H2) rfl rfl rfl rfl i [] s3 σ3 H3 (λ_ _=>False) I3 (stat fr3) st3 stop) λr s4 ⟨hr,J4⟩=>?_;subst hr;obtain⟨m,hn,_⟩:=id J4.loc;have hs:X.s₀.heap.objs.size<=C:=Nat.le_trans I2.sz hCle;refine⟨.next,D,H3,m,rfl,rfl,I2.call' (ch:=fp) J4.os J4.base J4.hok J4.bare (λb hb=>?_),qn,hn,J4.free,λz=>?_,hs,λx c h z=>?_,λp hp z=>?_⟩
   ·obtain⟨f0,f1,f2',f3,f4,f5⟩:=f2 b hb;exact⟨f3,f1,f4,f5⟩
   ·have:=I2.lt;rw[<-z]at this;exact absurd (Nat.lt_of_lt_of_le this hCle) (Nat.lt_irrefl _)
   ·obtain⟨v,o,z1,_⟩:=I2.cell x c h;have:=Heap.lt_size z1;rw[z]at this;exact absurd (Nat.lt_of_lt_of_le this hCle) (Nat.lt_irrefl _)
   ·have:=Heap.lt_size (I2.pin p hp).1;rw[z]at this;exact absurd (Nat.lt_of_lt_of_le this hCle) (Nat.lt_irrefl _)
  ·refine thn (T.item (yj X N' scope cl C fp s2 H2) rfl rfl rfl rfl i [] s3 σ3 H3 (λ_ _=>False) I3 (stat fr3) st3 go) λr s4 ⟨u,hr,h4⟩=>?_;subst hr;refine thn h4 λ_ s5 ⟨x,H5,I5,r5,y5,st5,fr5⟩=>?_;have I5':=I5.pinned (stat fr5) (T.obj _ _ st5);refine thn (hg C fp s2 H2 _ s5 σ3 H5 x u _ I5' r5 (step x H5 y5)) λ_ s6 ⟨σ6,H6,I6,q6⟩=>?_;refine thn (ht C fp s2 H2 _ s6 σ6 H6 _ I6 q6) λok s7 ⟨H7,I7,q7⟩=>?_
   have again:∀{σ8:St}{H8:Hp}{s8:Shared},Inv (yj X N' scope cl C fp s2 H2) ([]++j1 fp s5.heap) σ8 H8 s8->(∃m',m' < n/\W (i+1) m' σ8 H8)->∃m,m<n/\∃i σ' H',Inv (yj X N' scope cl C fp s2 H2) [] σ' H' s8/\tn i s8.heap/\(∀b∈fp,H' b=none)/\W i m σ' H':=λ{σ8 H8 s8} I8 n8=>by
    obtain⟨m',hm,w8⟩:=n8;refine⟨m',hm,i+1,σ8,H8,I8.unpinned,T.keep _ _ _ st5 λb hb o e=>(I8.pin (b,o) (List.mem_append_right _ (List.mem_append_right _ (x9 hb e)))).1,λb hb=>?_,w8⟩;obtain⟨o,e,d⟩:=T.obj _ _ st5 b hb;exact(I8.pin (b,o) (List.mem_append_right _ (List.mem_append_right _ (x9 hb e)))).2.1
   cases ok with
   |false=>
    rw[if_neg Bool.false_ne_true]at q7;exact again I7 q7
   |true=>
    rw[if_pos rfl]at q7;refine thn (hi2 C fp s2 H2 _ s7 σ6 H7 _ I7 q7) λy s8 h8=>thn h8 λitv s9 h9=>?_;obtain⟨it2,fp2,tn2,J2,H9,e9,I9,T2,st9,f9,W2,⟨m2,w2⟩,turn2⟩:=h9;subst e9;have inner:=ztt (pos:=pos) (i1:=iter) (t1:=tg) (f1:=ifs) (i2:=i2) (hg2 C fp s2 H2) (ht2 C fp s2 H2) (he C fp s2 H2) I9 T2 st9 f9 w2 turn2;refine zts (codeAny_mono inner λr s10 h10=>?_) (T2.self _ 0 _ _ _ st9 (codeAny_mono inner λr s10 h10=>?_))
    all_goals
     cases r with
     |ok f=>
      obtain⟨σ10,H10,I10,w10⟩:=h10;exact again I10 w10
     |error e=>exact h10
 exact codeAny_compStart_list (loop _ rfl) (T.self _ 0 _ _ _ tn0 (loop _ rfl))
end
def ztu:Option W->Option W
 |some (.own _)=>none
 |some (.tmp _)=>none
 |w=>w
def qb(is:List Nat)(n:Nat):DSt->DSt
 |[]=>[]
 |w::ws=>(if n∈is then none else ztu w)::qb is (n+1) ws
theorem zkn(is:List Nat):∀(σ:DSt) (n j:Nat),n+j∈is->j<σ.length->(qb is n σ)[j]?=some none
 |[],_,_,_,h=>absurd h (Nat.not_lt_zero _)
 |w::ws,n,0,h,_=>by
  rw[Nat.add_zero]at h;simp[qb,h]
 |w::ws,n,j+1,h,hl=>by
  rw[qb,List.getElem?_cons_succ];exact zkn is ws (n+1) j (by rw[show n+1+j=n+(j+1) by omega];exact h) (by simpa using hl)
section
variable {K:PySem.W.Frag}{H₀ H H':Hp}
theorem Slots.dry(is:List Nat)(p:Pers H H'){σD:DSt}{σ:St}{fp:List Addr}(h:Slots K H₀ H σD σ fp):∀n,Slots K H₀ H' (qb is n σD) σ []:=by
 induction h with
 |nil=>exact λn=>.nil
 |none t ih=>
  intro n;unfold qb
  split <;> exact .none (ih _)
 |val r t ih=>
  intro n;unfold qb
  split
  ·exact .none (ih _)
  ·exact .val (r.mono p) (ih _)
 |vw r t ih=>
  intro n;unfold qb
  split
  ·exact .none (ih _)
  ·exact .vw r (ih _)
 |vd r t ih=>
  intro n;unfold qb
  split
  ·exact .none (ih _)
  ·exact .vd r (ih _)
 |exc r t ih=>
  intro n;unfold qb
  split
  ·exact .none (ih _)
  ·exact .exc r (ih _)
 |scr r t ih=>
  intro n;unfold qb
  split
  ·exact .none (ih _)
  ·exact .scr r (ih _)
 |pen r t ih=>
  intro n;unfold qb
  split
  ·exact .none (ih _)
  ·exact .pen (p _ _ r rfl) (ih _)
 |tmp r t ih=>
  intro n;unfold qb
  split <;> exact .none (ih _)
 |own r t ih=>
  intro n;unfold qb
  split <;> exact .none (ih _)
theorem DOk.dry(is:List Nat)(p:Pers H H')(sm:Same H₀ H'){σD:DSt}{σ:St}(h:DOk K H₀ H σD σ):DOk K H₀ H' (qb is 0 σD) σ:=by
 obtain⟨s,fp,sl,nd,hf⟩:=h;exact⟨sm,[],sl.dry is p 0,List.nodup_nil,λa ha=>by cases ha⟩
end
def zi9(f:D->(Option D->Prop)->Prop):List D->List D->(List D->Prop)->Prop
 |[],acc,Q=>Q acc
 |e::es,acc,Q=>f e λo=>match o with
  |some y=>acc.length<sizeLine/\zi9 f es (acc ++ [y]) Q
  |none=>zi9 f es acc Q
def zhh(g:DTG)(tt:DTT)(ti2:DTF)(is2:List Nat)(g2:DTG)(tt2:DTT)(te:DTE)(σ0:DSt):List D->List D->(List D->Prop)->Prop
 |[],acc,Q=>Q acc
 |d::ds,acc,Q=>g d σ0 λσ1=>tt σ1 λb=>if b=true then ti2 σ1 λes=>zi9 (lcF g2 tt2 te (qb is2 0 σ1)) es acc λacc'=>zhh g tt ti2 is2 g2 tt2 te σ0 ds acc' Q else zhh g tt ti2 is2 g2 tt2 te σ0 ds acc Q
def zp5(k:Nat)(js:List Nat)(ti:DTF)(g:DTG)(tt:DTT)(ti2:DTF)(is2:List Nat)(g2:DTG)(tt2:DTT)(te:DTE):DTF:=λσ Q=>ti σ λds=>zhh g tt ti2 is2 g2 tt2 te (xw k js σ) ds [] Q
section
variable {X:Cx}{elt tg iter t2 i2:Expr}{ifs ifs2:List Expr}{scope:Scope}{pos:Pos}{cl:List (Str×Addr)}{N' capt:List Str}{k:Nat}{js is is2:List Nat}{ti ti2:DTF}{g g2:DTG}{tt tt2:DTT}{te:DTE}
theorem zl0{σ:St}{σD:DSt}{H₀ H1:Hp}{J:It}{ds:List D}{QD:List D->Prop}{Dd:Addr}(ok:DOk X.K H₀ H1 σD σ)(it:ItOk X.K Same J H1 ds)(his:∀j∈is,j<k)(his2:∀j∈is2,j<k)(hn:H1 Dd=none)(q1:zhh g tt ti2 is2 g2 tt2 te (xw k js σD) ds [] QD):
  zdg J Dd (cnG X.K is g) (cnT X.K tt) (cnI X.K Pers ti2) (cnG X.K is2 g2) (cnT X.K tt2) (cnE X.K te) (y8 k js σ) H1 (λv H'=>∃a vs xs,v=.ref a/\Same H1 H'/\H1 a=none/\H' a=some (.lst vs)/\Reps X.K H' xs vs/\QD xs):=by
 refine⟨λi m σ' H'=>m=ds.length-i/\i<=ds.length/\Same H1 H'/\σ'.length=(y8 k js σ).length/\(∀j,k<=j->σ'[j]?=(y8 k js σ)[j]?)/\∃acc vs,H' Dd=some (.lst vs)/\Reps X.K H' acc vs/\zhh g tt ti2 is2 g2 tt2 te (xw k js σD) (ds.drop i) acc QD,
  ⟨ds.length,rfl,Nat.zero_le _,yk hn _,rfl,λ_ _=>rfl,[],[],zx,.nil,q1⟩,?_⟩
 rintro i m σ' H' ⟨rfl,hi,sm,hl,fr,acc,vs,eD,ra,q1⟩;have ok1:DOk X.K H1 H' (xw k js σD) σ':=by
  refine DOk.keepN ((ok.block k js).after sm) hl λj=>?_
  by_cases hj:j<k
  ·left;unfold xw;rw[List.getElem?_append_left (by simpa using hj),List.getElem?_replicate,if_pos hj]
  ·right;exact fr j (by omega)
 by_cases hlt:i<ds.length
 ·have e:ds[i]?=some ds[i]:=by simp[hlt]
  obtain⟨go,yl⟩:=it.go H' i ds[i] sm e;refine .inr ⟨go,λx H2 y=>?_⟩;obtain⟨s2,r2⟩:=yl x H2 y;rw[List.drop_eq_getElem_cons hlt]at q1;refine⟨H1,xw k js σD,ds[i],_,ok1.after s2,r2,q1,λσ2 σD2 l2 ok2 f2 q2=>?_⟩;have fr2:∀j,k<=j->σ2[j]?=(y8 k js σ)[j]?:=λj hj=>by rw[f2 j (λz=>absurd (his j z) (by omega)),fr j hj]
  refine⟨H1,σD2,_,ok2,q2,λb H4 s4 q4=>?_⟩
  cases b with
  |false=>
   rw[if_neg Bool.false_ne_true]at q4 ⊢;exact⟨ds.length-(i+1),by omega,rfl,hlt,(sm.trans s2).trans s4,l2.trans hl,fr2,acc,vs,s4 _ _ (s2 _ _ eD),(ra.same s2).same s4,q4⟩
  |true=>
   rw[if_pos rfl]at q4 ⊢;refine⟨H1,σD2,_,ok2.after s4,q4,λJ2 H5 es s5 it5 q5=>?_⟩;have ok5:=(ok2.after s4).after s5;refine⟨λi2 n2 σ6 H6=>n2=es.length-i2/\i2<=es.length/\Pers H5 H6/\Same H1 H6/\σ6.length=σ2.length/\(∀j,j∉is2->σ6[j]?=σ2[j]?)/\∃acc vs,H6 Dd=some (.lst vs)/\Reps X.K H6 acc vs/\zi9 (lcF g2 tt2 te (qb is2 0 σD2)) (es.drop i2) acc (λacc'=>zhh g tt ti2 is2 g2 tt2 te (xw k js σD) (ds.drop (i+1)) acc' QD),
    ⟨es.length,rfl,Nat.zero_le _,Pers.refl _,((sm.trans s2).trans s4).trans s5,rfl,λ_ _=>rfl,acc,vs,s5 _ _ (s4 _ _ (s2 _ _ eD)),((ra.same s2).same s4).same s5,q5⟩,?_⟩
   rintro j2 n2 σ6 H6 ⟨rfl,hj,p6,sm6,l6,f6,acc,vs,eD6,ra6,q6⟩;have okB:DOk X.K H1 H6 (qb is2 0 σD2) σ6:=by
    refine DOk.keepN (ok5.dry is2 p6 sm6) l6 λj=>?_
    by_cases hj:j∈is2
    ·by_cases hjl:j<σD2.length
     ·exact .inl (zkn is2 σD2 0 j (by rw[Nat.zero_add];exact hj) hjl)
     ·right;have h1:=ok5.len;rw[List.getElem?_eq_none (by omega),List.getElem?_eq_none (by omega)]
    ·exact .inr (f6 j hj)
   by_cases hlt2:j2<es.length
   ·have e2:es[j2]?=some es[j2]:=by simp[hlt2]
    obtain⟨go2,yl2⟩:=it5.go H6 j2 es[j2] p6 e2;refine .inr ⟨go2,λx7 H7 y7=>?_⟩;obtain⟨s7,r7⟩:=yl2 x7 H7 y7;rw[List.drop_eq_getElem_cons hlt2]at q6;refine⟨H1,qb is2 0 σD2,es[j2],_,okB.after s7,r7,q6,λσ8 σD8 l8 ok8 f8 q8=>?_⟩;have fr8:∀j,j∉is2->σ8[j]?=σ2[j]?:=λj hj=>(f8 j hj).trans (f6 j hj);refine⟨H1,σD8,_,ok8,q8,λb H9 s9 q9=>?_⟩
    cases b with
    |false=>
     rw[if_neg Bool.false_ne_true]at q9 ⊢;exact⟨es.length-(j2+1),by omega,rfl,hlt2,p6.trans (s7.trans s9).pers,(sm6.trans s7).trans s9,l8.trans l6,fr8,acc,vs,s9 _ _ (s7 _ _ eD6),(ra6.same s7).same s9,q9⟩
    |true=>
     rw[if_pos rfl]at q9 ⊢;refine⟨H1,σD8,_,ok8.after s9,q9,λy H10 dy s10 r10 q10=>?_⟩;have eD10:=s10 _ _ (s9 _ _ (s7 _ _ eD6));have ra10:=((ra6.same s7).same s9).same s10;refine⟨vs,eD10,by rw[<-ra10.length];exact q10.1,es.length-(j2+1),by omega,rfl,hlt2,(p6.trans ((s7.trans s9).trans s10).pers).trans (vy eD10 rfl),?_,l8.trans l6,fr8,acc ++ [dy],vs ++ [y],zx,?_,q10.2⟩
     ·exact Same.but (((sm6.trans s7).trans s9).trans s10) hn But.write
     ·exact(ra10.append (.cons r10 .nil)).mono (vy eD10 rfl)
   ·have e2:j2=es.length:=by omega
    subst e2;rw[List.drop_length]at q6;exact .inl ⟨it5.stop H6 p6,ds.length-(i+1),by omega,rfl,hlt,sm6,(l6.trans l2).trans hl,λj hj=>(f6 j λz=>absurd (his2 j z) (by omega)).trans (fr2 j hj),acc,vs,eD6,ra6,q6⟩
 ·have e:i=ds.length:=by omega
  subst e;rw[List.drop_length]at q1;exact .inl ⟨it.stop H' sm,Dd,vs,acc,rfl,sm,hn,eD,ra,q1⟩
end
section
variable {X:Cx}
theorem zl1{i:Nat}{x:Str}{elt tg iter t2 i2:Expr}{ifs ifs2:List Expr}{wi2:TI}{g2:TG}{tt2:TT}{scope:Scope}{pos pos' spos:Pos}{cl:List (Str×Addr)}{N' capt:List Str}{k:Nat}{js:List Nat}{wi:TI}{g:TG}{tt:TT}{te:TE}(hN:X.N.Nodup)(hi':X.N[i]?=some x)(hx:Loc X.env.scope x)(hc:X.calm=true)(L:zd6 X scope cl N' capt k js)
  (hi:PI X tg iter wi) (hg:∀C fp s2 H2,PG (yj X N' scope cl C fp s2 H2) tg g) (ht:∀C fp s2 H2,PTs (yj X N' scope cl C fp s2 H2) ifs tt) (hi2:∀C fp s2 H2,PI (yj X N' scope cl C fp s2 H2) t2 i2 wi2) (hg2:∀C fp s2 H2,PG (yj X N' scope cl C fp s2 H2) t2 g2) (ht2:∀C fp s2 H2,PTs (yj X N' scope cl C fp s2 H2) ifs2 tt2) (he:∀C fp s2 H2,PE (yj X N' scope cl C fp s2 H2) elt te) (hs2:∀C x,foldedSetIterable i2 (compEnvC scope cl C X.env) x=pure x:=by intro _ _;rfl)
  (hsw:swapsWith (LC2 elt tg iter t2 i2 ifs ifs2 scope pos) (some (.Name x pos')) spos.line X.env=pure true:=by rfl)
  (hs:∀x,foldedSetIterable iter X.env x=pure x:=by intro _;rfl) (hf:X.fn x=true\/X.env.scope.names.lookup x=some .local:=by first|exact .inl rfl|exact .inr rfl|assumption):PS X (.Assign [.Name x pos'] (LC2 elt tg iter t2 i2 ifs ifs2 scope pos) spos) (zow (zvq k js wi g tt wi2 g2 tt2 te) (zma i)):=by
 intro pins s σ H D I h;have h:zvq k js wi g tt wi2 g2 tt2 te σ H (λv H1=>D.nx (σ.set i (some v)) H1):=h;rw[exec_Assign_Name_used _ _ _ _ hsw];refine wpAny_bind (wpAny_standAt (wpAny_bind ?_));show wpAny _ X.A (do let _ <-comprehension (LC2 elt tg iter t2 i2 ifs ifs2 scope pos) scope X.env _ (newList []) false (eval iter X.env) (some (assign (.Name x pos') X.env))) _ _ s;refine wpAny_bind (wpAny_mono (wpAny_comprehension_free (use:=some (assign (.Name x pos') X.env)) (Q:=λ_ s'=>SP X pins D .next s') rfl hs L.clos L.kind L.names
  (thn (hi pins s σ H _ I h) λv s1 h1=>thn h1 λitv s2 h2=>?_)) (λ_ s' hq=>wpAny_pure (wpAny_pure hq)) λ_ _ e=>e)
 obtain⟨it,fp,tn,J,H2,e,I2,T,st2,f2,q⟩:=h2;subst e;refine thn (zlz (E:=X.xe) hc L hg ht hi2 hg2 ht2 he hs2 I2 T st2 f2 q) λacc s3 h3=>thn h3 λcenv s4 h4=>codeAny_mono h4 λr s' hr=>?_;obtain⟨f,D',H',m,rfl,rfl,J',qq,hn,b1,b2,b3,b4,b5⟩:=hr;show wpAny _ X.A (assign (.Name x pos') X.env (.ref D')) _ _ _;refine wpAny_assign_Name (za9 (v:=.ref D') J' hN hi' hx rfl (λs'' J'' hsb=>?_) hf);obtain⟨a,hsb,ha⟩:=hsb;have hne:cenv.locals≠a:=by
  rcases ha with z|z
  ·rw[z];exact b2
  ·exact λz'=>b4 x a z z'.symm
 exact⟨m,hn.sameBut hsb hne,λh' hs'=>⟨_,H',LcEnd.let_go J'' b1 b2 b3 b4 b5 hs',qq⟩⟩
variable {elt tg iter t2 i2:Expr}{ifs ifs2:List Expr}{scope:Scope}{pos:Pos}{cl:List (Str×Addr)}{N' capt:List Str}{k:Nat}{js is is2:List Nat}{ti ti2:DTF}{g g2:DTG}{tt tt2:DTT}{te:DTE}
theorem zja{i:Nat}{x:Str}{pos' spos:Pos}(hN:X.N.Nodup)(hi':X.N[i]?=some x)(hx:Loc X.env.scope x)(hc:X.calm=true)(L:zd6 X scope cl N' capt k js)
  (hi:DIw X tg iter ti) (hg:∀C fp s2 H2,DG (yj X N' scope cl C fp s2 H2) tg is g) (ht:∀C fp s2 H2,DTs (yj X N' scope cl C fp s2 H2) ifs tt)
  (hi2:∀C fp s2 H2,DI (yj X N' scope cl C fp s2 H2) t2 i2 ti2) (hg2:∀C fp s2 H2,DG (yj X N' scope cl C fp s2 H2) t2 is2 g2) (ht2:∀C fp s2 H2,DTs (yj X N' scope cl C fp s2 H2) ifs2 tt2)
  (he:∀C fp s2 H2,DE (yj X N' scope cl C fp s2 H2) elt te) (his:∀j∈is,j<k) (his2:∀j∈is2,j<k) (hs2:∀C x,foldedSetIterable i2 (compEnvC scope cl C X.env) x=pure x)
  (hsw:swapsWith (LC2 elt tg iter t2 i2 ifs ifs2 scope pos) (some (.Name x pos')) spos.line X.env=pure true) (hs:∀x,foldedSetIterable iter X.env x=pure x) (hf:X.fn x=true\/X.env.scope.names.lookup x=some .local)
  {pins:List (Addr×Obj)}{s:Shared}{σ:St}{H H₀:Hp}{σD:DSt}{Q:List D->Prop} (I:Inv X pins σ H s) (ok:DOk X.K H₀ H σD σ) (q:zp5 k js ti g tt ti2 is2 g2 tt2 te σD Q) :
  wpAny (model X.prog X.w) X.A (exec (.Assign [.Name x pos'] (LC2 elt tg iter t2 i2 ifs ifs2 scope pos) spos) X.env) (λf s'=>f=.next/\∃a H' vs xs,Inv X pins (σ.set i (some (.ref a))) H' s'/\Same H H'/\H a=none/\H' a=some (.lst vs)/\Reps X.K H' xs vs/\Q xs) X.xe s:=by
 refine thn (zl1 (wi:=cnI X.K Same ti) (g:=cnG X.K is g) (tt:=cnT X.K tt) (wi2:=cnI X.K Pers ti2) (g2:=cnG X.K is2 g2) (tt2:=cnT X.K tt2) (te:=cnE X.K te) hN hi' hx hc L hi.pi (λC fp s2 H2=>(hg C fp s2 H2).pg) (λC fp s2 H2=>(ht C fp s2 H2).pts) (λC fp s2 H2=>(hi2 C fp s2 H2).pi) (λC fp s2 H2=>(hg2 C fp s2 H2).pg) (λC fp s2 H2=>(ht2 C fp s2 H2).pts) (λC fp s2 H2=>(he C fp s2 H2).pe) hs2 hsw hs hf pins s σ H
  { nx:=λσ' H'=>∃a vs xs,σ'=σ.set i (some (.ref a))/\Same H H'/\H a=none/\H' a=some (.lst vs)/\Reps X.K H' xs vs/\Q xs,rt:=λ_ _=>False } I ?_) λf s' z=>?_
 ·refine⟨H₀,σD,_,ok,q,λJ H1 ds s1 it q1 Dd hn=>?_⟩;obtain⟨W,w0,turn⟩:=zl0 (ok.after s1) it his his2 hn q1;refine⟨W,w0,λi m σ' H' w=>?_⟩;rcases turn i m σ' H' w with⟨st,aa,vs,xs,e,sm,n,e2,r,qd⟩|h
  ·exact .inl ⟨st,aa,vs,xs,by rw[e],s1.trans sm,s1.free n,e2,r,qd⟩
  ·exact .inr h
 ·cases f with
  |next=>obtain⟨σ',H',I',a,vs,xs,rfl,sm,n,e,r,q⟩:=z;exact⟨rfl,a,H',vs,xs,I',sm,n,e,r,q⟩
  |ret u=>obtain⟨_,_,_,_,_,z⟩:=z;exact z.elim
  |brk=>obtain⟨_,_,_,z⟩:=z;exact z.elim
  |cont=>obtain⟨_,_,_,z⟩:=z;exact z.elim
theorem zl2{i:Nat}{x:Str}{pos' spos:Pos}(hN:X.N.Nodup)(hi':X.N[i]?=some x)(hx:Loc X.env.scope x)(hc:X.calm=true)(L:zd6 X scope cl N' capt k js)
  (hi:DIw X tg iter ti) (hg:∀C fp s2 H2,DG (yj X N' scope cl C fp s2 H2) tg is g) (ht:∀C fp s2 H2,DTs (yj X N' scope cl C fp s2 H2) ifs tt)
  (hi2:∀C fp s2 H2,DI (yj X N' scope cl C fp s2 H2) t2 i2 ti2) (hg2:∀C fp s2 H2,DG (yj X N' scope cl C fp s2 H2) t2 is2 g2) (ht2:∀C fp s2 H2,DTs (yj X N' scope cl C fp s2 H2) ifs2 tt2)
  (he:∀C fp s2 H2,DE (yj X N' scope cl C fp s2 H2) elt te) (his:∀j∈is,j<k:=by decide) (his2:∀j∈is2,j<k:=by decide) (hs2:∀C x,foldedSetIterable i2 (compEnvC scope cl C X.env) x=pure x:=by intro _ _;rfl)
  (hsw:swapsWith (LC2 elt tg iter t2 i2 ifs ifs2 scope pos) (some (.Name x pos')) spos.line X.env=pure true:=by rfl) (hs:∀x,foldedSetIterable iter X.env x=pure x:=by intro _;rfl) (hf:X.fn x=true\/X.env.scope.names.lookup x=some .local:=by first|exact .inl rfl|exact .inr rfl|assumption) :
  DS X (.Assign [.Name x pos'] (LC2 elt tg iter t2 i2 ifs ifs2 scope pos) spos) (zm6 i (dFz (zp5 k js ti g tt ti2 is2 g2 tt2 te))):=⟨λpins s σ H H₀ σD Dn I ok q=>by
 refine thn (zja hN hi' hx hc L hi hg ht hi2 hg2 ht2 he his his2 hs2 hsw hs hf I ok q) λf s' ⟨ef,a,H',vs,xs,I',sm,n,e,r,qd⟩=>?_;subst ef;obtain⟨H'',J,sm',r'⟩:=j4 I' sm n e r;exact⟨_,H'',_,J,(ok.after sm').setV r' i,sm'.pers,qd⟩⟩
end
section
variable {X:Cx}{e:Expr}{es:List Expr}{pos:Pos}{i j:Nat}{sp:zlp}{t:zlq}
end
section
variable {K:PySem.W.Frag}{H₀ H Hb H':Hp}{σD:DSt}{σ:St}
end
section
variable {X:Cx}{elt tg iter:Expr}{ifs:List Expr}{scope:Scope}{pos:Pos}{cl:List (Str×Addr)}{N' capt:List Str}{k:Nat}{js is:List Nat}{ti:DTF}{g:DTG}{tt:DTT}{sp:zlp}{t:zlq}
end
section
variable {X:Cx}
variable {o e:Expr}{to te:DTE}{apos cpos:Pos}
end
end L2
namespace SQ
open PySem PyProof.Rows
set_option autoImplicit false
def zw0(h:Heap)(v:Value)(is:List Int):Prop:=∃a its n t u js,v=.ref a/\IsTup h a its/\its.toList = [.int n t,u]/\RefIs h u js/\is=n::js
open Classical in
noncomputable def zw1 (h:Heap) (v:Value):Option (List Int):=if x:∃is,zw0 h v is then some x.choose else none
@[reducible] noncomputable def prK (h:Heap):KeyKind:={ ziu h with keyOf:=λv=>zw1 h v }
section
variable {prog:Program}{w:World}{A:Around}{E:Value->Shared->Prop}{s:Shared}
theorem items_int{vs:List Value}{ns:List Int}(h:IntsAre vs ns):ItemsAre (intKind prog w) ns vs:=by
 induction h with
 |nil=>exact .nil
 |cons n t h ih=>exact .cons (by simp[intKind,Value.isInt]) ih
theorem All2.perm{α β:Type}{R:α->β->Prop}{as' as:List α}(p:as'.Perm as):∀{bs:List β},All2 R as bs->∃bs',All2 R as' bs'/\bs'.Perm bs:=by
 induction p with
 |nil=>intro bs h;exact⟨bs,h,.refl _⟩
 |cons x p ih=>
  intro bs h
  cases h with
  |cons h t=>
   obtain⟨bs',h',p'⟩:=ih t;exact⟨_,.cons h h',p'.cons _⟩
 |swap x y l=>
  intro bs h
  cases h with
  |cons h t=>
   cases t with
   |cons h2 t=>exact⟨_,.cons h2 (.cons h t),.swap _ _ _⟩
 |trans p1 p2 ih1 ih2=>
  intro bs h;obtain⟨b1,h1,q1⟩:=ih2 h;obtain⟨b2,h2,q2⟩:=ih1 h1;exact⟨b2,h2,q2.trans q1⟩
end
end SQ
namespace L2
open PySem PySem.Spec PyProof.Rows SQ
section
variable {X:Cx}{pins:List (Addr×Obj)}{σ:St}{H:Hp}{s:Shared}
end
end L2
namespace L2
open PySem PySem.Spec PyProof.Rows SQ
section
variable {X:Cx}{pins:List (Addr×Obj)}{σ:St}{H:Hp}{s:Shared}
end
section
variable {X:Cx}{a body:Expr}{ta:DTF}{tb:DTE}{p pos kp lp:Pos}{k:Nat}{P c:Addr}{q y:Str}{params:Arguments}{scope:Scope}{N:List Str}
end
end L2
namespace PySem.AutoSeq1
open PySem.MeetsSeq PySem.MeetsSeq2 PySem.MeetsSeq3
end PySem.AutoSeq1
namespace L2
open PySem PySem.Spec PyProof.Rows
section
variable {X:Cx}{e:Expr}{te:DTE}{pos:Pos}
end
section
variable {X:Cx}
end
section
variable {K:PySem.W.Frag}{H:Hp}
end
section
variable {X:Cx}{tk te:DTE}{pos:Pos}
end
section
variable {X:Cx}{tk te:DTE}{pos:Pos}
end
theorem KV.at{κ:Type}:∀{vs:List (κ×V)}{ws:List (κ×Value)}{i:Nat}{k:κ}{v:V},KV vs ws->vs[i]?=some (k,v)->∃u,ws[i]?=some (k,u)
 |[],_,_,_,_,_,e=>by simp at e
 |p::vs,ws,i,k,v,h,e=>by
  cases h with
  |cons r t=>
   cases i with
   |zero=>
    simp at e;subst e
    rename_i b l
    obtain⟨k',u⟩:=b;have z:k=k':=r.1;subst z;exact⟨u,rfl⟩
   |succ i=>
    obtain⟨u,hu⟩:=KV.at t (show vs[i]?=some (k,v) by simpa using e);exact⟨u,by simpa using hu⟩
section
variable {X:Cx}{pins:List (Addr×Obj)}{σ:St}{H:Hp}{s:Shared}{a:Addr}{o:Obj}
end
section
variable {X:Cx}{tg:Expr}
theorem RepK.at{K:PySem.W.Frag}{H:Hp}:∀{kvs:List (D×D)}{vs:List (Key×V)}{i:Nat}{d:D},RepK K H kvs vs->(kvs.map (·.1))[i]?=some d->∃k v,vs[i]?=some (k,v)/\d=kD k
 |_,_,i,d,.nil,e=>by simp at e
 |_,_,i,d,.cons (k:=k) (v:=v) r t,e=>by
  cases i with
  |zero=>simp at e;exact⟨k,v,rfl,e.symm⟩
  |succ i=>
   obtain⟨k',v',h1,h2⟩:=RepK.at t (i:=i) (by simpa using e);exact⟨k',v',by simpa using h1,h2⟩
theorem RepK.len{K:PySem.W.Frag}{H:Hp}:∀{kvs:List (D×D)}{vs:List (Key×V)},RepK K H kvs vs->kvs.length=vs.length
 |_,_,.nil=>rfl
 |_,_,.cons r t=>by rw[List.length_cons,List.length_cons,RepK.len t]
end
section
variable {K:PySem.W.Frag}{H₀ H:Hp}{σD:DSt}{σ:St}
def dP(ks:List (Key×D)):List (D×D):=ks.map λp=>(kD p.1,p.2)
theorem ztv{a b:Key}(h:kD a=kD b):a=b:=by
 cases a <;> cases b <;> simp[kD]at h <;> rw[h]
theorem RepK.kv:∀{ks:List (Key×D)}{vs:List (Key×V)},RepK K H (dP ks) vs->RepKV K H ks vs
 |[],vs,h=>by cases h;exact RepKV.nil'
 |(k,d)::ks,vs,h=>by
  generalize hg:dP ((k,d)::ks)=l at h
  cases h with
  |nil=>cases hg
  |cons r t=>
   simp only[dP,List.map_cons,List.cons.injEq,Prod.mk.injEq]at hg;obtain⟨⟨h1,rfl⟩,rfl⟩:=hg
   cases ztv h1;exact RepKV.cons r (RepK.kv t)
end
section
variable {X:Cx}
end
section
variable {X:Cx}{o:Expr}{td:TE}{p pos apos cpos:Pos}
end
section
variable {prog:Program}{w:World}{A:Around}{E:Value->Shared->Prop}
variable {κ:Type}[DecidableEq κ]{knd:KeyKind prog w κ}
end
section
variable {X:Cx}{e:Expr}{p pos:Pos}
end
section
variable {X:Cx}
end
section
variable {X:Cx}{a:Expr}{te:DTE}{p pos:Pos}
end
structure zxd(K:PySem.W.Frag)(mg:Str->Option Value)(c:Str)(C:Addr)(fs:List Str):Prop where
 m:mg c=some (.ref C)
 n:PySem.W.nsIn K mainGlobals c=some (some (.ref C))
 c:Cls K C
 f:∀f∈fs,zr9 K C f
section
variable {X:Cx}{e e2:Expr}{es:List Expr}{te:DTE}{t:DTP}{pos:Pos}{c f m x:Str}{C g:Addr}{i j k k':Nat}{ps fs:List Str}{sp:zlp}{tg:zlq}
end
section
variable {X:Cx}
end
def zvr(hi:Int)(n:Nat):It:=⟨λi _=>i<n,λi H x H'=>H'=H/\x=.int (hi-i),λi _=>n<=i⟩
theorem zhi{P:Program}{w:World}{K:PySem.W.Frag}{tg:Expr}(it:Addr)(lo:Int)(n:Nat):ze7 P w K tg (zvr lo n) [it] it (λi h=>IsRangeIter h it (lo+(i:Nat) *(-1)) ((n:Int)-(i:Nat)) (-1)) where
 mem:=by simp
 obj:=λi h st b hb=>by
  have e:b=it:=by simpa using hb
  subst e;exact⟨_,st,λv z=>by
   have z':Data.fields _=Data.cell v:=z
   cases z'⟩
 keep:=λi h h' st k=>k it (by simp) _ st
 item:=by
  intro X hP hw hK hc i pins s σ H E I hf st hg;subst hP hw hK;obtain⟨f0,f1,f2,f3,f4,f5⟩:=hf it (by simp);have W:=Walks.range (prog:=X.prog) (w:=X.w) (I.ok.hd hc) it lo (-1) n;refine W.item i s _ _ hg st λv h' tk hv st' kk=>?_;obtain⟨t,rfl⟩:=hv;have I1:Inv X pins σ H { s with heap:=h',toks:=tk }:=I.turned (λb o hb e=>kk b o (by simpa using hb) e) f0 f1 f3 f4 f5;refine⟨_,rfl,zjr (s:={ s with heap:=h',toks:=tk }) (n := "range_iterator") st' rfl rfl (by decide) ⟨.int (lo-i),H,I1,⟨t,?_⟩,⟨rfl,rfl⟩,st',λb hb=>(hf b hb).1⟩⟩;rw[show lo+(i:Int) *(-1)=lo-i by omega]
 done:=by
  intro X hP hw hK hc i pins s σ H E I hf st hg;subst hP hw hK;obtain⟨f0,f1,f2,f3,f4,f5⟩:=hf it (by simp);exact wpAny_pyNext_range_end (I.ok.hd hc) st (by have:n<=i:=hg;omega) λh' eb=>⟨rfl,I.turned (t':=s.toks) (λb o hb e=>eb b o hb e) f0 f1 f3 f4 f5⟩
 self:=λ_ _ _ _ _ st h=>wpAny_pyIter_rangeiter st h
def zat(hi:Int)(n:Nat):List D:=(List.range n).map λi=>.int (hi-(i:Nat))
theorem zp6{K:PySem.W.Frag}{Kp:Hp->Hp->Prop}{H1:Hp}(lo:Int)(n:Nat):ItOk K Kp (zvr lo n) H1 (zat lo n) where
 go:=λH i d k e=>by
  have hi:i<n:=by have:=(List.getElem?_eq_some_iff.mp e).1;simpa[zat]using this
  refine⟨hi,λx H' y=>?_⟩;obtain⟨rfl,rfl⟩:=y;refine⟨Same.refl _,?_⟩;simp[zat,List.getElem?_map,List.getElem?_range hi]at e;subst e;exact .int
 stop:=λH k=>by
  show n<=(zat lo n).length;simp[zat]
section
variable {X:Cx}{tg:Expr}{a b c:Expr}{p p2 pos pos2:Pos}{t:DTF}
theorem zvs{K:PySem.W.Frag}{H:Hp}{x:D}{vs:List V}:Reps K H [x] vs->∃a,vs = [a]/\Rep K H x a
 |.cons r1 .nil=>⟨_,rfl,r1⟩
theorem zjb:isSubtype (.type "range_iterator") (.type "reversed")=pure false:=by rw[isSubtype_type];kernel_rfl
section
variable {prog:Program}{w:World}{A:Around}{E:Value->Shared->Prop}{s:Shared}
theorem zdh{r:Addr}{n:Int}{t u v:Tok}{Q:Value->Shared->Prop}(hr:IsRange s.heap r 0 n 1 t u v)(h1 : -(2 ^ 62)<=n)(h2:n<2 ^ 62)
  (h:Q (.ref s.heap.objs.size) { s with heap:=s.heap.push { cls:=.type "range_iterator",data:=.fields #[rawInt (Builtin.Range.rangeSize 0 n 1-1),rawInt (Builtin.Range.rangeSize 0 n 1),rawInt (-1)] } }):wpAny (model prog w) A (call (.builtin "range.__reversed__") [.ref r]) Q E s:=by
 have hT:s.TypeIs (.ref r) "range" :=⟨_,hr,rfl⟩
 refine wpAny_call_entry F.slot_range_reversed hT F.entry_range_reversed ?_ (F.args_range_reversed_1 _);have hsm:(Builtin.Range.rangeFitsLong 0 && Builtin.Range.rangeFitsLong n && Builtin.Range.rangeFitsLong 1 && Builtin.Range.rangeFitsLong (-1) && Builtin.Range.rangeFitsLong (0-1) && Builtin.Range.rangeFitsLong (Builtin.Range.rangeSize 0 n 1))=true:=by
  unfold Builtin.Range.rangeFitsLong;rw[rangeSize_one];simp only[Bool.and_eq_true,decide_eq_true_eq]
  split <;> omega
 unfold Builtin.«range.__reversed__»;refine wpAny_bind (wpAny_of_eq (a:=Value.ref r) rfl ?_);refine wpAny_bind ?_;unfold Builtin.Range.rangeFields;refine wpAny_bind (wpAny_field hr rfl (x:=.int 0 t) rfl (wpAny_bind (wpAny_of_eq (a:=some (0:Int)) rfl ?_)));refine wpAny_bind (wpAny_field hr rfl (x:=.int n u) rfl (wpAny_bind (wpAny_of_eq (a:=some n) rfl ?_)));refine wpAny_bind (wpAny_field hr rfl (x:=.int 1 v) rfl (wpAny_bind (wpAny_of_eq (a:=some (1:Int)) rfl (wpAny_pure ?_))));dsimp only;rw[hsm];simp only[Bool.not_true,Bool.false_eq_true,if_false,if_true];refine wpAny_bind (wpAny_newObj_type (wpAny_pure ⟨_,rfl,?_⟩));simpa using h
theorem zdi{r:Addr}{n:Int}{t u v:Tok}{Q₁:Value->Shared->Prop}(hr:IsRange s.heap r 0 n 1 t u v)(h1 : -(2 ^ 62)<=n)(h2:n<2 ^ 62)
  (h:Q₁ (.ref s.heap.objs.size) { s with heap:=s.heap.push { cls:=.type "range_iterator",data:=.fields #[rawInt (Builtin.Range.rangeSize 0 n 1-1),rawInt (Builtin.Range.rangeSize 0 n 1),rawInt (-1)] } }) :
  codeAny (model prog w) A (.call (.builtin "reversed.__new__") ⟨[.type "reversed",.ref r],[]⟩) (wants Q₁ E) s:=by
 have hT:s.TypeIs (.ref r) "range" :=⟨_,hr,rfl⟩
 refine codeAny_of_tree ?_;show wpAny _ A.in1 (do checkBuiltinCall "reversed.__new__" ⟨[.type "reversed",.ref r],[]⟩;again (.builtin "reversed.__new__" ⟨[.type "reversed",.ref r],[]⟩)) _ _ s;refine wpAny_bind (wpAny_of_eq (F.newCall_reversed_1 _) (wpAny_pure ⟨plainId_quiet F.plain_reversed_new _,codeAny_builtin F.entry_reversed_new ?_⟩));rw[Around.under_plainId F.plain_reversed_new _];unfold Builtin.«reversed.__new__»;refine wpAny_bind (wpAny_of_eq (newClass_reversed _) ?_)
 try dsimp only
 refine wpAny_bind (wpAny_of_eq (a:=()) (by first|rfl|kernel_rfl) ?_);refine wpAny_bind (wpAny_of_eq (a:=()) (by first|rfl|kernel_rfl) ?_)
 try dsimp only
 refine wpAny_bind (wpAny_specialOf hT F.slot_range_reversed.lookup ?_)
 try dsimp only
 refine wpAny_bind (wpAny_of_eq (F.slot_range_reversed.bind _) ?_)
 try dsimp only
 rw[if_neg (show ¬ ((Value.builtin "range.__reversed__" == Value.none)=true) from Bool.false_ne_true)];refine wpAny_bind (wpAny_rule ?_);refine wpAny_bind (m:=runValue (.call (.builtin "range.__reversed__") ⟨[.ref r],[]⟩)) (show wpAny _ _ (call (.builtin "range.__reversed__") [.ref r]) _ _ _ from zdh hr h1 h2 ?_)
 first
 |exact wpAny_pure h
 |exact wpAny_bind (wpAny_pure (wpAny_pure h))
theorem zdj{r:Addr}{n:Int}{t u v:Tok}{Q:Value->Shared->Prop}(hr:IsRange s.heap r 0 n 1 t u v)(h1 : -(2 ^ 62)<=n)(h2:n<2 ^ 62)
  (h:Q (.ref s.heap.objs.size) { s with heap:=s.heap.push { cls:=.type "range_iterator",data:=.fields #[rawInt (Builtin.Range.rangeSize 0 n 1-1),rawInt (Builtin.Range.rangeSize 0 n 1),rawInt (-1)] } }):wpAny (model prog w) A (call (.type "reversed") [.ref r]) Q E s:=by
 refine callType_other (U := "range_iterator") (Q₁:=λobj s₁=>obj=.ref s.heap.objs.size/\s₁ = { s with heap:=s.heap.push { cls:=.type "range_iterator",data:=.fields #[rawInt (Builtin.Range.rangeSize 0 n 1-1),rawInt (Builtin.Range.rangeSize 0 n 1),rawInt (-1)] } }) (by decide +kernel) F.create_reversed ⟨_,_,F.mro_reversed⟩ F.made_reversed zjb (F.typeCall_reversed_1 _) (zdi hr h1 h2 ⟨rfl,rfl⟩) ?_;rintro obj s₁ ⟨rfl,rfl⟩;exact⟨⟨_,Heap.get?_push_size _ rfl,rfl⟩,h⟩
end
def znw(ta:DTF):DTF:=λσ Q=>ta σ λds=>match ds with
 |[.int j]=>(-(2 ^ 62)<=j/\j<2 ^ 62)/\Q (zat ((j.toNat:Int)-1) j.toNat)
 |_=>False
theorem zp7(hg:Gl X "reversed")(hm:X.mg "reversed" = none)(hg2:Gl X "range")(hm2:X.mg "range" = none)(ha:DA X [a] t)(hs:starEach [a] X.env = [(false,eval a X.env)]:=by rfl)
  (hs3:starEach [.Call (.Name "range" p2) [a] [] pos2] X.env = [(false,eval (.Call (.Name "range" p2) [a] [] pos2) X.env)]:=by rfl) :
  DI X tg (.Call (.Name "reversed" p) [.Call (.Name "range" p2) [a] [] pos2] [] pos) (znw t) :=
 ⟨λpins s σ H R I ⟨H₀,σD,QD,ok,q,k⟩=>by
  refine Call_ (qo I hg hm boot_reversed (PyProof.Rows.callWith_type1 ?_ hs3 rfl));rw[hs3];show wpAny _ _ (spliced ((false,eval (.Call (.Name "range" p2) [a] [] pos2) X.env)::backTo pos [])) _ _ s;refine Calls.spliced_cons ?_;refine Call_ (qo I hg2 hm2 boot_range (PyProof.Rows.callWith_type1 (thn (ha.run pos2 pins s σ H H₀ σD _ I ok q) λus s1 ⟨vs,H1,ds,I1,r1,sm,rp,q1⟩=>?_) hs rfl))
  match ds,rp,q1 with
  |[.int j],rp,q1=>
   obtain⟨⟨h1,h2⟩,q2⟩:=q1;obtain⟨x,rfl,ra⟩:=zvs rp
   cases ra;obtain⟨v1,rfl,ru⟩:=r1.one;obtain⟨t1,rfl⟩:=ru
   ·refine call_range_1 (Calls.spliced_nil (zdj (IsRange.new ..) h1 h2 ?_));generalize hh:s1.heap.push { cls:=.type "range",data:=.fields #[.int 0 s1.toks,.int j t1,.int 1 (s1.toks+1)] }=h0;have keep:∀b o,s1.heap.get? b=some o->h0.get? b=some o:=λb o e=>by rw[<-hh];exact Heap.get?_push_of_some _ e
    have le:s1.heap.objs.size<=h0.objs.size:=by rw[<-hh,Heap.size_push];exact Nat.le_succ _
    dsimp only;have sz:Builtin.Range.rangeSize 0 j 1=(j.toNat:Int):=by rw[rangeSize_one];split <;> omega
    rw[sz];have hit:IsRangeIter (h0.push { cls:=.type "range_iterator",data:=.fields #[rawInt ((j.toNat:Int)-1),rawInt (j.toNat:Int),rawInt (-1)] }) h0.objs.size ((j.toNat:Int)-1) (j.toNat:Int) (-1):=Heap.get?_push_size _ rfl;refine wpAny_pyIter_rangeiter hit ?_;refine⟨h0.objs.size,[h0.objs.size],_,_,H1,rfl,I1.kept (t':=s1.toks+1+1) λb o e=>Heap.get?_push_of_some _ (keep b o e),zhi _ ((j.toNat:Int)-1) j.toNat,?_,λb hb=>?_,k _ _ _ sm (zp6 _ _) q2⟩
    ·show IsRangeIter _ _ ((j.toNat:Int)-1+((0:Nat):Int) *(-1)) ((j.toNat:Int)-((0:Nat):Int)) (-1);rw[show(j.toNat:Int)-1+((0:Nat):Int) *(-1)=(j.toNat:Int)-1 by simp,show(j.toNat:Int)-((0:Nat):Int)=(j.toNat:Int) by simp];exact hit
    ·have e:b=h0.objs.size:=by simpa using hb
     subst e;exact I1.fpOk le (I1.hok.fresh le)⟩
end
section
open PySem.Builtin PySem.Builtin.Str
end
section
variable {X:Cx}{e:Expr}{es:List Expr}{pos:Pos}
structure DEk(X:Cx)(e:Expr)(t:DTE):Prop where
 run:∀(pins:List (Addr×Obj)) (s:Shared) (σ:St) (H H₀:Hp) (σD:DSt) (Q:D->Prop),1<=s.toks->Inv X pins σ H s->DOk X.K H₀ H σD σ->t σD Q->wpAny (model X.prog X.w) X.A (eval e X.env) (DEnd X pins σ H Q) X.xe s
structure DVk(X:Cx)(e:Expr)(t:DTE):Prop where
 run:∀(pins:List (Addr×Obj)) (s:Shared) (σ:St) (H H₀:Hp) (σD:DSt) (Q:D->Prop),1<=s.toks->Inv X pins σ H s->DOk X.K H₀ H σD σ->t σD Q->wpAny (model X.prog X.w) X.A (eval e X.env) (zqz X pins σ H Q) X.xe s
structure DFk(X:Cx)(e:Expr)(t:DTF):Prop where
 run:∀(pins:List (Addr×Obj)) (s:Shared) (σ:St) (H H₀:Hp) (σD:DSt) (Q:List D->Prop),1<=s.toks->Inv X pins σ H s->DOk X.K H₀ H σD σ->t σD Q->wpAny (model X.prog X.w) X.A (eval e X.env) (zeq X pins σ H Q) X.xe s
structure DAk(X:Cx)(es:List Expr)(t:DTF):Prop where
 run:∀(pos:Pos) (pins:List (Addr×Obj)) (s:Shared) (σ:St) (H H₀:Hp) (σD:DSt) (Q:List D->Prop),1<=s.toks->Inv X pins σ H s->DOk X.K H₀ H σD σ->t σD Q ->
  wpAny (model X.prog X.w) X.A (spliced (backTo pos (starEach es X.env))) (λus s'=>∃vs H' ds,Inv X pins σ H' s'/\Vals vs us/\Same H H'/\Reps X.K H' ds vs/\Q ds) X.xe s
structure DSk(X:Cx)(st:Stmt)(t:DTS):Prop where
 run:∀(pins:List (Addr×Obj)) (s:Shared) (σ:St) (H H₀:Hp) (σD:DSt) (Dn:vj),1<=s.toks->Inv X pins σ H s->DOk X.K H₀ H σD σ->t Dn σD->wpAny (model X.prog X.w) X.A (exec st X.env) (DSP X pins H₀ H Dn) X.xe s
structure zw2(X:Cx)(st:List Stmt)(t:DTS):Prop where
 run:∀(pins:List (Addr×Obj)) (s:Shared) (σ:St) (H H₀:Hp) (σD:DSt) (Dn:vj),1<=s.toks->Inv X pins σ H s->DOk X.K H₀ H σD σ->t Dn σD->wpAny (model X.prog X.w) X.A (execs st X.env) (DSP X pins H₀ H Dn) X.xe s
theorem DS.k{st:Stmt}{t:DTS}(h:DS X st t):DSk X st t:=⟨λpins s σ H H₀ σD Dn _ I ok q=>h.run pins s σ H H₀ σD Dn I ok q⟩
theorem DSs.k{st:List Stmt}{t:DTS}(h:DSs X st t):zw2 X st t:=⟨λpins s σ H H₀ σD Dn _ I ok q=>h.run pins s σ H H₀ σD Dn I ok q⟩
end
section
variable {X:Cx}{pins:List (Addr×Obj)}{σ:St}{H:Hp}{s:Shared}{P c:Addr}{q:Str}
end
section
variable {X:Cx}{pins:List (Addr×Obj)}{σ:St}{H:Hp}{a it S f:Addr}{xs:List V}{kf:Nat->Int}{kwd:List (Str×Value)}{R:Value->Shared->Prop}
structure zxe(X:Cx)(pins:List (Addr×Obj))(σ:St)(H:Hp)(a it S:Addr)(xs:List V)(kf:Nat->Int)(j i:Nat)(H1:Hp)(s:Shared):Prop where
 I:Inv X pins σ H1 s
 sm:Same H H1
 st:s.heap.IsListIter it a j
 f1:FpOk X pins H1 it
 f2:FpOk X pins H1 S
 ne:it≠S
 best:∃vb tb c x,s.heap.get? S=some (seqObj "list" #[vb,.int (kf i) tb] c)/\xs[i]?=some x/\RelV x vb
 lt:i<j
 mx:∀j',j' < j->kf i<=kf j'/\(j' < i->kf i<kf j')
end
section
variable {X:Cx}{pins:List (Addr×Obj)}{σ:St}{H:Hp}{a f:Addr}{xs:List V}{kf:Nat->Int}{R:Value->Shared->Prop}{s:Shared}
end
structure zvt(y n:Str)(sc:Scope):Prop where
 kind:sc.kind=.function
 co:sc.isCoroutine=false
 gen:sc.isGenerator=false
 ne:y≠n
 loc:sc.names.lookup y=some .local
 fre:sc.names.lookup n=some .free
 only:∀x∈sc.names,x.2 ≠ .cell/\(x.2=.free->x.1=n)
section
variable {X:Cx}{a body:Expr}{ta:DTF}{tb:DTE}{p pos kp kp2 lp cp:Pos}{k:Nat}{P c:Addr}{q y n:Str}{params:Arguments}{scope:Scope}
end
end L2
namespace SQ
open PySem PyProof.Rows
set_option autoImplicit false
abbrev ipK(p:Int×Str):List Int:=p.1::p.2.cps.toList.map λn:Nat=>(n:Int)
def RefP(h:Heap)(v:Value)(p:Int×Str):Prop:=∃a t u,v=.ref a/\IsTup h a #[.int p.1 t,.str p.2 u]
theorem RefP.uniq{h:Heap}{v:Value}{p q:Int×Str}(x:RefP h v p)(y:RefP h v q):p=q:=by
 obtain⟨a,t,u,rfl,⟨o,e,_,n,d⟩⟩:=x;obtain⟨a',t',u',e',⟨o',e2,_,n',d'⟩⟩:=y
 cases e';rw[e]at e2
 cases e2;rw[d]at d';obtain⟨i,x⟩:=p;obtain⟨j,y⟩:=q
 cases d';rfl
theorem RefP.keep{h h':Heap}{v:Value}{p:Int×Str}(k:∀b o,h.get? b=some o->h'.get? b=some o)(x:RefP h v p):RefP h' v p:=by
 obtain⟨a,t,u,e,i⟩:=x;exact⟨a,t,u,e,i.keeps k⟩
noncomputable def jr (h:Heap) (v:Value):Option (List Int):=@dite _ (∃p,RefP h v p) (Classical.propDecidable _) (λx=>some (ipK x.choose)) (λ_=>none)
theorem zau{h:Heap}{v:Value}{is:List Int}(e:jr h v=some is):∃p,RefP h v p/\is=ipK p:=by
 unfold jr at e
 split at e
 ·next x=>cases e;exact⟨_,x.choose_spec,rfl⟩
 ·cases e
theorem zdk{h:Heap}{v:Value}{p:Int×Str}(x:RefP h v p):jr h v=some (ipK p):=by
 unfold jr;rw[dif_pos ⟨p,x⟩];rw[(Exists.choose_spec (p:=λp=>RefP h v p) ⟨p,x⟩).uniq x]
@[reducible] noncomputable def zhj (h:Heap):KeyKind where
 α:=List Int
 blt a b:=decide (a<b)
 irrefl a:=by simpa using List.lt_irrefl a
 trans a b c h1 h2:=by simp only[decide_eq_true_eq]at *;exact List.lt_trans h1 h2
 negTrans a b c h:=by
  simp only[decide_eq_true_eq]at *
  by_cases c:a<b
  ·exact .inl c
  ·exact .inr (List.lt_of_le_of_lt (List.not_lt.mp c) h)
 total a b h1 h2:=by simp only[decide_eq_false_iff_not]at *;exact List.le_antisymm (List.not_lt.mp h2) (List.not_lt.mp h1)
 keyOf v:=jr h v
 dflt:=[]
theorem znx:∀xs ys:List Nat,(xs.map (λn:Nat=>(n:Int))<ys.map (λn:Nat=>(n:Int)))↔xs<ys
 |[],[]=>by simp
 |[],y::ys=>by simp
 |x::xs,[]=>by simp
 |x::xs,y::ys=>by
  rw[List.map_cons,List.map_cons,List.cons_lt_cons_iff,List.cons_lt_cons_iff,znx xs ys];simp only[Int.ofNat_lt,Int.natCast_inj]
section
variable {prog:Program}{w:World}{A:Around}{E:Value->Shared->Prop}{s:Shared}
theorem zl3{x y:Str}{t u:Tok}{Q:Bool->Shared->Prop}(h:Q (decide (x.cps.toList<y.cps.toList)) s):wpAny (model prog w) A (oneLt' false (.str x t) (.str y u)) Q E s:=by
 rw[oneLt'_eq];rw[if_neg (by decide)];exact wpAny_bind (richCompare_gives (op:=.Lt) (typeIs_str s x t) (typeIs_str s y u) F.slot_str_lt F.entry_str_lt (F.args_str_lt_2 _ _) (gives_str_lt x y t u) (λe=>nomatch e) (wpAny_truthy_bool h))
theorem zny{h₀:Heap}{f:Bool}(k:∀b o,h₀.get? b=some o->s.heap.get? b=some o):zao prog w A s (zhj h₀) (tuples' f):=λE x y a b Q ha hb q=>by
 obtain⟨p,rp,rfl⟩:=zau ha;obtain⟨q',rq,rfl⟩:=zau hb;obtain⟨ra,t1,u1,rfl,⟨oa,ga,_,na,da⟩⟩:=rp.keep k;obtain⟨rb,t2,u2,rfl,⟨ob,gb,_,nb,db⟩⟩:=rq.keep k;obtain⟨i,x⟩:=p;obtain⟨j,y⟩:=q';have q:Q (decide (ipK (i,x)<ipK (j,y))) s:=q;refine wpAny_bind (listItems_at ga da (wpAny_bind (listItems_at gb db (wpAny_bind ?_))));show wpAny _ _ (forIn ([((Value.int i t1,Value.int j t2),0),((Value.str x u1,Value.str y u2),1)]:List ((Value×Value)×Nat)) _ _) _ _ _;simp only[List.forIn_cons,List.forIn_nil];refine wpAny_bind (wpAny_bind (wpAny_eqBool_int ?_))
 by_cases c:i=j
 ·subst c;rw[if_neg (by simp)];refine wpAny_pure (wpAny_bind (wpAny_bind (wpAny_eqBool_str ?_)))
  by_cases c2:x=y
  ·subst c2;rw[if_neg (by simp)];refine wpAny_pure (wpAny_pure (wpAny_pure ?_));have e:decide (ipK (i,x)<ipK (i,x))=false:=decide_eq_false (List.lt_irrefl _);rw[e]at q;exact q
  ·rw[if_pos (by simpa using c2)];have e1:(f && (1:Nat) == 0)=false:=by cases f <;> rfl
   rw[e1];refine wpAny_bind (zl3 (wpAny_pure (wpAny_pure (wpAny_pure ?_))));have e:decide (ipK (i,x)<ipK (i,y))=decide (x.cps.toList<y.cps.toList):=decide_eq_decide.mpr (by
    rw[List.cons_lt_cons_iff,znx];simp)
   rw[e]at q;exact q
 ·rw[if_pos (by simpa using c)];refine wpAny_bind (zc7 (wpAny_pure (wpAny_pure (wpAny_pure ?_))))
  have e:decide (ipK (i,x)<ipK (j,y))=decide (i<j):=decide_eq_decide.mpr (by
   rw[List.cons_lt_cons_iff];simp[c])
  rw[e]at q;exact q
theorem zjc{v:Value}{p:Int×Str}(h:RefP s.heap v p):∃t,∀Q:Option Value->Shared->Prop,Q (some (.int p.1 t)) s->wpAny (model prog w) A (firstOfTuple' v) Q E s:=by
 obtain⟨a,t,u,rfl,⟨o,g,c,n,d⟩⟩:=h;refine⟨t,λQ q=>wpAny_bind (wpAny_typeOf (T := "tuple") ⟨o,g,c⟩ ?_)⟩;rw[if_neg (by decide)];exact wpAny_bind (listItems_at g d (wpAny_pure q))
theorem zdl:∀{vs:List Value}{ps:List (Int×Str)},All2 (RefP s.heap) vs ps->∃(fs:List Value) (ns:List Int),IntsAre fs ns/\fs.length=vs.length/\∀Q:List (Option Value)->Shared->Prop,Q (fs.map some) s->wpAny (model prog w) A (vs.mapM firstOfTuple') Q E s
 |_,_,.nil=>⟨[],[],.nil,rfl,λQ q=>by rw[List.mapM_nil];exact wpAny_pure q⟩
 |_,_,.cons (b:=p) h r=>by
  obtain⟨fs,ns,i1,l1,w1⟩:=zdl r;obtain⟨t,w2⟩:=zjc (prog:=prog) (w:=w) (A:=A) (E:=E) h;refine⟨.int p.1 t::fs,p.1::ns,.cons p.1 t i1,by simp[l1],λQ q=>?_⟩;rw[List.mapM_cons];exact wpAny_bind (w2 _ (wpAny_bind (w1 _ (wpAny_pure q))))
theorem zjd{vs:List Value}{ps:List (Int×Str)}{Q:SortKind->Shared->Prop}(h:All2 (RefP s.heap) vs ps)(h2:2<=vs.length)(q:Q (tuples' true) s):wpAny (model prog w) A (keyKind' vs.toArray) Q E s:=by
 obtain⟨fs,ns,i1,l1,w1⟩:=zdl (prog:=prog) (w:=w) (A:=A) (E:=E) h;rw[keyKind'_eq,List.mapM_toArray];simp only[map_eq_pure_bind,bind_assoc,pure_bind];refine wpAny_bind (w1 _ ?_);rw[if_pos (by simp)];refine wpAny_bind (m:=rule _) (wpAny_rule ?_);have ef:Array.filterMap id (List.map some fs).toArray=fs.toArray:=by simp
 rw[ef,oneTypeOnly'_eq,List.mapM_toArray,mapM_typeOf_ints i1];simp only[map_pure,pure_bind]
 cases fs with
 |nil=>simp at l1;omega
 |cons f fs=>
  have hall:((List.map (λ_=>Value.type "int") (f::fs)).toArray.all λx=>x == Value.type "int")=true:=by
   simp only[List.all_toArray,List.all_map,List.all_eq_true];intro _ _;rfl
  have g0:(List.map (λ_=>Value.type "int") (f::fs)).toArray[0]?=some (Value.type "int"):=by simp
  rw[g0];simp only[hall,if_true,pure_bind];exact wpAny_pure q
end
end SQ
namespace L2
open PySem PySem.Spec PyProof.Rows SQ
def ipD(p:Int×Str):D:=.tuple [.int p.1,.str p.2]
def deP:D->Int×Str
 |.tuple [.int i,.str x]=>(i,x)
 |_=>(0,Str.empty)
theorem ztw(p:Int×Str):deP (ipD p)=p:=rfl
section
variable {X:Cx}
theorem zdm{pins:List (Addr×Obj)}{σ:St}{H:Hp}{s:Shared}(I:Inv X pins σ H s):∀{ps:List (Int×Str)}{vs:List V}{us:List Value},Reps X.K H (ps.map ipD) vs->Vals vs us->All2 (RefP s.heap) us ps
 |[],_,_,.nil,.nil=>.nil
 |p::ps,_,_,.cons r rs,.cons q qs=>by
  refine .cons ?_ (zdm I rs qs)
  cases r with
  |tup h r=>
   cases q
   cases r with
   |cons r1 t=>cases t with
    |cons r2 t=>
     cases t
     cases r1
     cases r2;obtain⟨its,rv,ht,_⟩:=I.tuple h
     cases rv with
     |cons a t=>cases t with
      |cons b t=>
       cases t;obtain⟨t1,rfl⟩:=a;obtain⟨t2,rfl⟩:=b;exact⟨_,t1,t2,rfl,ht⟩
def zje:List D->(List D->Prop)->Prop
 |[.tuple xs],Q=>xs.length<64/\∃ps:List (Int×Str),xs=ps.map ipD/\∀qs:List (Int×Str),qs.Perm ps->qs.Pairwise (λa b=>¬ ipK b<ipK a)->Q (qs.map ipD)
 |_,_=>False
theorem zp8:CallF X (.builtin "sorted") zje:=⟨λpins s σ H vs us ds Q I rv rd q=>by
 match ds,q,rd with
 |[.tuple xs],q,rd=>
  obtain⟨v,rfl,r⟩:=rd.one;obtain⟨a,vs,rfl,h,r⟩:=r.tuple;obtain⟨u,rfl,r1⟩:=rv.one
  cases r1;obtain⟨us,rv,⟨o,ho,hc,n,hd⟩,hz⟩:=I.tuple h;obtain⟨h64,ps,rfl,q⟩:=q;have h64:us.length<64:=by rw[<-rv.length,<-r.length];exact h64
  have zu:us.length<=sizeLine:=by rw[<-rv.length];exact hz
  have rf:=zdm I r rv;have hk:∀v∈us,∃k,(zhj s.heap).keyOf v=some k:=λv hv=>by
   obtain⟨t,_,h⟩:=rf.mem hv;exact⟨_,zdk h⟩
  refine zbn (κ:=zhj s.heap) (kd:=tuples' true) (.inr rfl) ho hc hd zu h64 (λA' h' _ k=>zny k) (vn hk) (λh2 A' E' h' Q' k q=>zjd (rf.imp λ_ _ h=>h.keep k) h2 q) λout h' p e p1 p2 hp g k=>?_;obtain⟨pm,ks,a2,pw⟩:=jp p1 p2 hk;obtain⟨vs',ds',rv',r',pd⟩:=zbm pm rv r;obtain⟨ss,rfl,pms⟩:=zc9 deP ztw pd;have rf':=zdm I r' rv';have ek:ks=ss.map ipK:=by
   clear pm pms pw r' rv' pd;generalize (out.map (·.2)).toList=l at rf' a2
   induction a2 generalizing ss with
   |nil=>cases rf';rfl
   |cons h t ih=>
    cases rf' with
    |cons h1 t1=>
     have:=zdk h1;rw[show(zhj s.heap).keyOf _=jr s.heap _ from rfl,this]at h
     cases h;rw[ih _ t1];rfl
  subst ek;have pw2:ss.Pairwise (λa b=>¬ ipK b<ipK a):=by
   have:=List.pairwise_map.mp pw;exact this.imp λh=>by simpa[zhj,KeyOrd.kle]using h
  have hn:=I.hok.fresh hp;have lv:vs'.length<=sizeLine:=by rw[rv'.length,pm.length_eq];exact zu
  exact⟨p,_,vs',_,rfl,I.laid (t':=s.toks) (o:=.lst vs') k hp ⟨lv,(out.map (·.2)).toList,e,rv',g⟩,yk hn _,hn,zx,r'.same (yk hn _),q ss pms pw2⟩⟩
end
end L2
namespace L2
open PySem PySem.Spec PyProof.Rows
section
variable {X:Cx}{o:Expr}{td:TE}{p pos:Pos}
end
section
variable {X:Cx}
end
section
variable {X:Cx}
end
section
variable {P:Program}{w:World}{K:PySem.W.Frag}{mg:Str->Option Value}{base:Heap}{N:List Str}{qual:Str}{scope:Scope}{f:Addr}{cd:Value}{A:Around}{outer:List Env}{s:Shared}{H:Hp}{E:XK}
end
end L2
namespace L2
open PySem PySem.Spec PyProof.Rows SQ
section
variable {X:Cx}{a:Expr}{p pos p2 pos2:Pos}
def zw3(X:Cx)(ta:TA):TE:=λσ H Q=>ta σ H λvs H1=>∃(b:Addr) (ns:List Int),vs = [.ref b]/\SqL X.K H1 b (ns.map V.int)/\ns.length<64/\∀(d:Addr) (ms:List Int),H1 d=none->ms.Pairwise (· < ·)->(∀x,x∈ms↔x∈ns)->Q (.ref d) (upd H1 d (.lst (ms.map V.int)))
theorem zfx{ta:TA}(hgl:Gl X "sorted")(hml:X.mg "sorted" = none)(hg:Gl X "set")(hm:X.mg "set" = none)(hc:X.calm=true)(ha:PA X [a] ta)(hs:starEach [a] X.env = [(false,eval a X.env)]:=by rfl)
  (hs2:starEach [.Call (.Name "set" p2) [a] [] pos2] X.env = [(false,eval (.Call (.Name "set" p2) [a] [] pos2) X.env)]:=by rfl) :
  PE X (.Call (.Name "sorted" p) [.Call (.Name "set" p2) [a] [] pos2] [] pos) (zw3 X ta):=by
 intro pins s σ H Q I h;refine Call_ (qo I hgl hml PyProof.Rows.boot_sorted (PyProof.Rows.callWith_builtin1 ?_ hs2 rfl));rw[hs2];show wpAny _ _ (spliced ((false,eval (.Call (.Name "set" p2) [a] [] pos2) X.env)::backTo pos [])) _ _ s;refine Calls.spliced_cons ?_;refine Call_ (qo I hg hm PyProof.Rows.boot_set (PyProof.Rows.callWith_type1 (thn (ha pos2 pins s σ H _ I h) λus s1 ⟨vs,H1,I1,r1,q1⟩=>?_) hs rfl));obtain⟨b,ns,e,hb,hl,q⟩:=q1;subst e
 cases r1 with
 |cons r rr=>
  cases rr
  cases r;obtain⟨its,rvs,plq,hz⟩:=I1.list hb;obtain⟨o,ho,hcl,n,hdt⟩:=plq.isList;have hi:=wx rvs;have hln:ns.length=its.length:=by have:=rvs.length;rwa [List.length_map]at this
  refine zdf (items:=its.toArray) (ns:=ns) (I.ok.hd hc) ⟨o,ho,hcl,n,hdt⟩ (by simpa using hi) (by simp[scanBound];omega) λh1 tk hS hk=>Calls.spliced_nil ?_;rw[show its.toArray.size=ns.length by simp[hln]]at hS;obtain⟨so,es,ep,t,ks,hso,hex,hsd,hf,tb,hes,hks,nd,hmem⟩:=znq hS;have l1:s1.heap.objs.size<h1.objs.size:=Heap.lt_size hso;have hik:∀e∈es.toList,∃n t,e.2=Value.int n t:=λe he=>hks.all e.2 (List.mem_map.mpr ⟨e,he,rfl⟩);refine zls (s:={ s1 with heap:=h1,toks:=tk }) (I.ok.hd hc) hso hex hsd hf tb (by rw[sizeLine_eq];omega) (by omega) hik λvs out h2 d2 tk2 r e pv p1 p2 le he k2=>?_;have hkv:∀v∈vs,∃k,intK.keyOf v=some k:=λv hv=>by
   obtain⟨e,he,rfl⟩:=List.mem_map.mp (pv.mem_iff.mp hv);obtain⟨i,t,e2⟩:=hik e he;rw[e2];exact⟨i,rfl⟩
  obtain⟨pm,ms,a2,pw⟩:=jp p1 p2 hkv;have ham:IntsAre (out.map (·.2)).toList ms:=by
   clear pm pw he;generalize (out.map (·.2)).toList=l at a2
   induction a2 with
   |nil=>exact .nil
   |@cons v k _ _ h t ih=>
    cases v <;> simp only[intK,reduceCtorEq,Option.some.injEq]at h
    subst h;exact .cons _ _ ih
  have pk:ms.Perm ks:=by
   rw[<-zkk ham,<-zkk hks];exact(pm.trans pv).map vI
  have pl:ms.Pairwise (· < ·):=by
   have h1:=pw.imp (S:=λa b:Int=>a<=b) λh=>by simpa[intK,KeyOrd.kle]using h
   have h2:=pk.nodup_iff.mpr nd;exact(h1.and h2).imp λ⟨h3,h4⟩=>Int.lt_iff_le_and_ne.mpr ⟨h3,h4⟩
  have hp:s1.heap.objs.size<=r:=Nat.le_trans (Nat.le_of_lt l1) le;have hn:=I1.hok.fresh hp;have lm:ms.length<64:=by rw[pk.length_eq,<-IntsAre.length hks,List.length_map,Array.length_toList];omega
  refine⟨.ref r,upd H1 r (.lst (ms.map V.int)),(I1.dr d2).laid (t':=tk2) (λb u e=>k2 _ _ (hk b u (Heap.lt_size e) e)) hp ⟨by rw[List.length_map,sizeLine_eq];omega,(out.map (·.2)).toList,e,zlt ham,by rw[he]⟩,rfl,q r ms hn pl λx=>(pk.mem_iff).trans (hmem x)⟩
def zw4(t:DTF):DTF:=λσ Q=>t σ λds=>match ds with
 |[.list ds]=>∃ns:List Int,ds=ns.map PyData.int/\ns.length<64/\∀ms:List Int,ms.Pairwise (· < ·)->(∀x,x∈ms↔x∈ns)->Q (ms.map PyData.int)
 |_=>False
theorem zfy{t:DTF}(hgl:Gl X "sorted")(hml:X.mg "sorted" = none)(hg:Gl X "set")(hm:X.mg "set" = none)(hc:X.calm=true)(ha:DAv X [a] t)(hs:starEach [a] X.env = [(false,eval a X.env)]:=by rfl)
  (hs2:starEach [.Call (.Name "set" p2) [a] [] pos2] X.env = [(false,eval (.Call (.Name "set" p2) [a] [] pos2) X.env)]:=by rfl) :
  DF X (.Call (.Name "sorted" p) [.Call (.Name "set" p2) [a] [] pos2] [] pos) (zw4 t) :=
 DF.of (zfx hgl hml hg hm hc ha.pa hs hs2) λσ H H₀ σD QD ok q=>⟨H₀,σD,_,ok,q,λvs H1 ds s1 r1 q1=>by
  match ds,r1,q1 with
  |[.list ds],r1,q1=>
   cases r1 with
   |cons r t=>
   cases t;obtain⟨b,us,rfl,hb,r⟩:=r.list.sq;obtain⟨ns,rfl,hl,q1⟩:=q1;have e1:=Reps.of_ints r;subst e1;refine⟨b,ns,rfl,hb,hl,λd ms hd pw hm=>?_⟩;have n1:H d=none:=by
    cases z:H d with
    |none=>rfl
    |some u=>rw[s1 d u z]at hd;cases hd
   exact⟨d,_,_,rfl,s1.trans (yk hd _),n1,zx,Reps.ints,q1 ms pw hm⟩⟩
end
end L2
namespace My
open PySem L2 PyProof.Rows
def top(i:Nat):Stmt:=PySem.Challenge.pw_knockpurse_k17_whole_stories.main.body.getD i (.Pass ⟨0,0,0,0⟩)
abbrev xy:Stmt:=top 9
theorem zhk:z0 ["thing"] ["thing"] (zc xy):=⟨rfl,rfl,rfl,by decide +kernel,rfl,by decide +kernel,by decide +kernel⟩
abbrev xz:Stmt:=top 10
theorem zhl:z0 ["thing", "least", "most"] ["thing", "least", "most"] (zc xz):=⟨rfl,rfl,rfl,by decide +kernel,rfl,by decide +kernel,by decide +kernel⟩
abbrev wf:Stmt:=top 11
theorem sc_choices:z0 ["n", "k", "many", "at"] ["n", "k"] (zc wf):=⟨rfl,rfl,rfl,by decide +kernel,rfl,by decide +kernel,by decide +kernel⟩
abbrev yu:Stmt:=top 18
theorem zcb:z0 ["thing"] ["thing"] (zc yu):=⟨rfl,rfl,rfl,by decide +kernel,rfl,by decide +kernel,by decide +kernel⟩
abbrev xb:Stmt:=top 19
theorem sc_story_good:z0 ["thing", "ahead", "stretch"] ["thing"] (zc xb):=⟨rfl,rfl,rfl,by decide +kernel,rfl,by decide +kernel,by decide +kernel⟩
abbrev yv:Stmt:=top 20
theorem sc_stretches_of:z0 ["beats", "stretches", "beat"] ["beats"] (zc yv):=⟨rfl,rfl,rfl,by decide +kernel,rfl,by decide +kernel,by decide +kernel⟩
abbrev x0:Stmt:=top 21
theorem sc_story_of:z0 ["things", "place", "thing", "stretches"] ["things"] (zc x0):=⟨rfl,rfl,rfl,by decide +kernel,rfl,by decide +kernel,by decide +kernel⟩
abbrev xm:Stmt:=top 22
theorem zfz:z0 ["story", "beat"] ["story", "beat"] (zc xm):=⟨rfl,rfl,rfl,by decide +kernel,rfl,by decide +kernel,by decide +kernel⟩
abbrev xn:Stmt:=top 23
theorem zf0:z0 ["story"] ["story"] (zc xn):=⟨rfl,rfl,rfl,by decide +kernel,rfl,by decide +kernel,by decide +kernel⟩
abbrev xc:Stmt:=top 24
theorem sc_next_sound:z0 ["story", "beat", "first", "last"] ["story", "beat"] (zc xc):=⟨rfl,rfl,rfl,by decide +kernel,rfl,by decide +kernel,by decide +kernel⟩
abbrev y3:Stmt:=top 25
theorem sc_next_silent:z0 ["story", "beat", "first", "last"] ["story", "beat"] (zc y3):=⟨rfl,rfl,rfl,by decide +kernel,rfl,by decide +kernel,by decide +kernel⟩
abbrev y4:Stmt:=top 26
theorem zdn:z0 ["story", "first", "last"] ["story", "first", "last"] (zc y4):=⟨rfl,rfl,rfl,by decide +kernel,rfl,by decide +kernel,by decide +kernel⟩
abbrev xf:Stmt:=top 27
theorem zd7:z0 ["story"] ["story"] (zc xf):=⟨rfl,rfl,rfl,by decide +kernel,rfl,by decide +kernel,by decide +kernel⟩
abbrev wg:Stmt:=top 28
theorem zjf:z0 ["stretches"] ["stretches"] (zc wg):=⟨rfl,rfl,rfl,by decide +kernel,rfl,by decide +kernel,by decide +kernel⟩
abbrev wt:Stmt:=top 29
theorem sc_either:z0 ["one", "other", "stretches", "first", "last"] ["one", "other"] (zc wt):=⟨rfl,rfl,rfl,by decide +kernel,rfl,by decide +kernel,by decide +kernel⟩
abbrev kl:Stmt:=top 30
theorem sc_both:z0 ["one", "other", "shared"] ["one", "other"] (zc kl):=⟨rfl,rfl,rfl,by decide +kernel,rfl,by decide +kernel,by decide +kernel⟩
abbrev xo:Stmt:=top 31
theorem sc_other_way:z0 ["story", "beat", "stretches", "sound_from", "first", "last"] ["story", "beat"] (zc xo):=⟨rfl,rfl,rfl,by decide +kernel,rfl,by decide +kernel,by decide +kernel⟩
abbrev x3:Stmt:=top 32
theorem sc_later_by:z0 ["story", "by", "moved"] ["story", "by"] (zc x3):=⟨rfl,rfl,rfl,by decide +kernel,rfl,by decide +kernel,by decide +kernel⟩
abbrev x4:Stmt:=top 33
theorem zhm:z0 ["number", "n"] ["number", "n"] (zc x4):=⟨rfl,rfl,rfl,by decide +kernel,rfl,by decide +kernel,by decide +kernel⟩
abbrev xp:Stmt:=top 34
theorem zf1:z0 ["story"] ["story"] (zc xp):=⟨rfl,rfl,rfl,by decide +kernel,rfl,by decide +kernel,by decide +kernel⟩
abbrev yo:Stmt:=top 35
theorem zav:z0 ["n", "k"] ["n", "k"] (zc yo):=⟨rfl,rfl,rfl,by decide +kernel,rfl,by decide +kernel,by decide +kernel⟩
abbrev yw:Stmt:=top 36
theorem sc_numbers_with:z0 ["n", "k", "begun", "beat", "further", "number", "left"] ["n", "k"] (zc yw):=⟨rfl,rfl,rfl,by decide +kernel,rfl,by decide +kernel,by decide +kernel⟩
abbrev yx:Stmt:=top 37
theorem sc_stories_with:z0 ["n", "k", "many"] ["n", "k"] (zc yx):=⟨rfl,rfl,rfl,by decide +kernel,rfl,by decide +kernel,by decide +kernel⟩
abbrev xq:Stmt:=top 38
theorem zf2:z0 ["thing"] ["thing"] (zc xq):=⟨rfl,rfl,rfl,by decide +kernel,rfl,by decide +kernel,by decide +kernel⟩
abbrev xg:Stmt:=top 39
theorem zd8:z0 ["thing"] ["thing"] (zc xg):=⟨rfl,rfl,rfl,by decide +kernel,rfl,by decide +kernel,by decide +kernel⟩
abbrev vo:Stmt:=top 40
theorem znz:z0 ["story", "thing"] ["story", "thing"] (zc vo):=⟨rfl,rfl,rfl,by decide +kernel,rfl,by decide +kernel,by decide +kernel⟩
abbrev xr:Stmt:=top 41
theorem sc_story_for:z0 ["looks", "stretches", "parted", "beat", "word", "story"] ["looks"] (zc xr):=⟨rfl,rfl,rfl,by decide +kernel,rfl,by decide +kernel,by decide +kernel⟩
abbrev yy:Stmt:=top 43
theorem zcc:z0 ["_law_script", "_law_k"] ["_law_script", "_law_k"] (zc yy):=⟨rfl,rfl,rfl,by decide +kernel,rfl,by decide +kernel,by decide +kernel⟩
abbrev xt:Stmt:=top 44
theorem sc__law_next:z0 ["_law_seed"] ["_law_seed"] (zc xt):=⟨rfl,rfl,rfl,by decide +kernel,rfl,by decide +kernel,by decide +kernel⟩
abbrev y6:Stmt:=top 45
theorem sc__law_pen_of:z0 ["_law_cell", "_law_left"] ["_law_cell"] (zc y6):=⟨rfl,rfl,rfl,by decide +kernel,rfl,by decide +kernel,by decide +kernel⟩
abbrev xu:Stmt:=top 46
theorem sc__law_draw:z0 ["_law_pen", "_law_many", "_law_found"] ["_law_pen", "_law_many"] (zc xu):=⟨rfl,rfl,rfl,by decide +kernel,rfl,by decide +kernel,by decide +kernel⟩
abbrev xh:Stmt:=top 47
theorem zd9:z0 ["_law_story", "_law_most"] ["_law_story", "_law_most"] (zc xh):=⟨rfl,rfl,rfl,by decide +kernel,rfl,by decide +kernel,by decide +kernel⟩
abbrev yp:Stmt:=top 48
theorem sc__law_one_right:z0 ["_law_story", "_law_most", "_law_marks_here", "_law_beat", "_law_sound", "_law_silent", "_law_great"] ["_law_story", "_law_most"] (zc yp):=⟨rfl,rfl,rfl,by decide +kernel,rfl,by decide +kernel,by decide +kernel⟩
abbrev yq:Stmt:=top 49
theorem sc__law_two_right:z0 ["_law_one", "_law_other", "_law_most", "_law_turned", "_law_together"] ["_law_one", "_law_other", "_law_most"] (zc yq):=⟨rfl,rfl,rfl,by decide +kernel,rfl,by decide +kernel,by decide +kernel⟩
abbrev yh:Stmt:=top 50
theorem sc__law_looks_right:z0 ["_law_story", "_law_looks", "_law_begin", "_law_end", "_law_found"] ["_law_story"] (zc yh):=⟨rfl,rfl,rfl,by decide +kernel,rfl,by decide +kernel,by decide +kernel⟩
abbrev kw:Stmt:=top 51
theorem sc_law:z0 ["_law_script", "_law_cell", "_law_pen", "_law_most", "_law_by", "_law_one", "_law_other", "_law_few"] ["_law_script"] (zc kw):=⟨rfl,rfl,rfl,by decide +kernel,rfl,by decide +kernel,by decide +kernel⟩
structure Blt(mg:Str->Option Value):Prop where
 len:mg "len" = none
 range:mg "range" = none
 enumerate:mg "enumerate" = none
 sum:mg "sum" = none
 min:mg "min" = none
 max:mg "max" = none
 isinstance:mg "isinstance" = none
 any:mg "any" = none
 all:mg "all" = none
 sorted:mg "sorted" = none
 reversed:mg "reversed" = none
 tupleT:mg "tuple" = none
 intT:mg "int" = none
 boolT:mg "bool" = none
 setT:mg "set" = none
abbrev Cal(P:Program)(w:World)(K:PySem.W.Frag)(mg:Str->Option Value)(base:Heap):=yd P w K mg base
local macro_rules|`(tactic| walk_at "dr")=>`(tactic| dsimp only[↓ztl,↓znm,↓zpj,↓zm4,↓zm6,↓zm7,↓zm8,↓ztc,↓ztd,↓zfw,↓zns,↓znw,↓zje,↓dIf,↓ztf,↓ztb,↓zm5,↓zpm,↓zna,↓zpk,↓zim,↓zo8,↓zo9,↓dC,↓zj0,↓zpa,↓zmp,↓zmq,↓zpb,↓zsk,↓zsl,↓dFz,↓dTB,↓onB,↓zsm,↓dOr,↓zsn,↓zso,↓zmr,↓zms,↓dOp,↓zfe,↓dUn,↓zsp,↓zsq,↓gII,↓zff,↓zst,↓zsu,↓zsv,↓zsw,↓gEq,↓gNe,↓zsx,↓zmu,↓j7,↓gIn,↓dCB,↓dCF,↓zsz,↓zs0,↓zs1,↓zs2,↓zii,↓gIx,↓zmv,↓zfi,↓dSl,↓zfj,↓zcl,↓zfk,↓zj6,↓zfl,↓zir,↓zfn,↓zm0,↓zik,↓zm1,↓znc,↓dLC,↓zp5,↓qb,↓ztu,↓lcF,↓zm2,↓zj7,↓zil,↓Ret.d,↓kh,↓xw,↓zg0,↓clr,↓zsj,↓dIs,↓isD,↓zs3,↓zs4,↓zs5,↓znd,↓ziz,↓znl,List.map_cons,List.map_nil,List.length_cons,List.length_nil,List.replicate_succ,List.replicate_zero,List.cons_append,List.nil_append,List.append_nil,List.set_cons_zero,List.set_cons_succ,List.getElem?_cons_zero,List.getElem?_cons_succ,Option.join_some,Nat.reduceAdd,Nat.reduceSub,Nat.zero_add,Bool.not_true,Bool.not_false])
local macro_rules|`(tactic| walk_at "ds")=>`(tactic| first|simp only[↓ztl,↓znm,↓zpj,↓zm4,↓zm6,↓zm7,↓zm8,↓ztc,↓ztd,↓zfw,↓zns,↓znw,↓zje,↓dIf,↓ztf,↓ztb,↓zm5,↓zpm,↓zna,↓zpk,↓zim,↓zo8,↓zo9,↓dC,↓zj0,↓zpa,↓zmp,↓zmq,↓zpb,↓zsk,↓zsl,↓dFz,↓dTB,↓onB,↓zsm,↓dOr,↓zsn,↓zso,↓zmr,↓zms,↓dOp,↓zfe,↓dUn,↓zsp,↓zsq,↓gII,↓zff,↓zst,↓zsu,↓zsv,↓zsw,↓gEq,↓gNe,↓zsx,↓zmu,↓j7,↓gIn,↓dCB,↓dCF,↓zsz,↓zs0,↓zs1,↓zs2,↓zii,↓gIx,↓zmv,↓zfi,↓dSl,↓zfj,↓zcl,↓zfk,↓zj6,↓zfl,↓zir,↓zfn,↓zm0,↓zik,↓zm1,↓znc,↓dLC,↓zp5,↓qb,↓ztu,↓lcF,↓zm2,↓zj7,↓zil,↓Ret.d,↓kh,↓xw,↓zg0,↓clr,↓zsj,↓dIs,↓isD,↓zs3,↓zs4,↓zs5,↓znd,↓ziz,↓znl,List.map_cons,List.map_nil,List.length_cons,List.length_nil,List.replicate_succ,List.replicate_zero,List.cons_append,List.nil_append,List.append_nil,List.set_cons_zero,List.set_cons_succ,List.getElem?_cons_zero,List.getElem?_cons_succ,Option.join_some,Nat.reduceAdd,Nat.reduceSub,Nat.zero_add,Bool.not_true,Bool.not_false,if_true,if_false,reduceIte,decide_eq_true_eq,Bool.not_eq_true',decide_eq_false_iff_not,true_and,and_true,Bool.false_eq_true,Bool.not_eq_eq_eq_not,eq_self,and_self,List.isEmpty_nil,List.isEmpty_cons,reduceCtorEq,sizeLine_eq,Nat.reduceLeDiff,Nat.zero_le]|skip)
section
variable {P:Program}{w:World}{K:PySem.W.Frag}{mg:Str->Option Value}{base:Heap}{f:Addr}{fd:FuncData}
def kx:DSp:=λws Q=>∃(ns:List Int) (k:Int),ws = [.scr ns,.val (.int k)]/\0<=k/\∀v:Int,Q (.val (.int v))
theorem zcd(B:Blt mg)(F:Fun K "_law_cell_at" "_law_cell_at" yy f fd):FnOk P w K mg base CX0 1 f fd ["_law_script", "_law_k"] (z4 K kx):=by
 refine F.dok zcc (λws Q h=>?_) (λcdv A outer s H ws Q E hr h=>?_)
 ·obtain⟨ns,k,rfl,_⟩:=h;rfl
 obtain⟨ns,k,rfl,h0,q⟩:=h;refine⟨_,(zf (yr (yc zfg (zd 1) (DE.dv (zlg 0 rfl B.len)) (zy _)) (ze (zq (zmw 0 (ya 1) (λ_ _=>rfl)))) z3) (ze (zq zg))),?_⟩;walk_at "ds"
 split
 ·next c=>
  obtain⟨v,e,_⟩:=zsi (xs:=ns) h0 c;exact⟨v,e,q v⟩
 ·exact q 0
def km:DSp:=λws Q=>∃k:Int,ws = [.val (.int k)]/\∀v:Int,Q (.val (.int v))
theorem zf3(B:Blt mg)(F:Fun K "_law_next" "_law_next" xt f fd):FnOk P w K mg base CX0 1 f fd ["_law_seed"] (z4 K km):=by
 refine F.dok sc__law_next (λws Q h=>?_) (λcdv A outer s H ws Q E hr h=>?_)
 ·obtain⟨k,rfl,_⟩:=h;rfl
 obtain⟨k,rfl,q⟩:=h;refine⟨_,(zf (xi (i:=0) sc__law_next.nd rfl (Or.inl rfl) (yg zj1 (DE.dv (yg wj (zd 0) (DE.dv zg))) (DE.dv zg))) (ze (zq (yg zj1 (DE.dv (yg wj (DE.dv (yg wj (DE.dv (yg zj2 (zd 0) (zd 0))) (DE.dv (yg zj2 (DE.dv zg) (zd 0))))) (DE.dv zg))) (DE.dv zg))))),?_⟩;walk_at "ds";have h1:0<=(k+7919) % 2147483647:=Int.emod_nonneg _ (by decide);have h2:(k+7919) % 2147483647<2147483647:=Int.emod_lt_of_pos _ (by decide);exact⟨by decide,.inl ⟨by omega,by omega⟩,.inl ⟨by omega,by omega⟩,by decide,q _⟩
def jg:DSp:=λws Q=>∃k:Int,ws = [.val (.int k)]/\∀a b c:Int,Q (.new [.int a,.int b,.int c])
theorem zdo(B:Blt mg)(F:Fun K "_law_pen_of" "_law_pen_of" y6 f fd):FnOk P w K mg base CX0 1 f fd ["_law_cell"] (z4 K jg):=by
 refine F.dok sc__law_pen_of (λws Q h=>?_) (λcdv A outer s H ws Q E hr h=>?_)
 ·obtain⟨k,rfl,_⟩:=h;rfl
 obtain⟨k,rfl,q⟩:=h;refine⟨_,(zf (xi (i:=1) sc__law_pen_of.nd rfl (Or.inl rfl) (ym (zc2 rfl) rfl B.max boot_max (zn (zd 0) (zn (DE.dv (yg vz (DE.dv zg) (zd 0))) z7)))) (ze (zcm (vc (zk (ya 1) (zk (wb zve rfl B.intT boot_int (zn (DE.dv (ve zwp (zd 1) (DE.dv (yg zq4 (DE.dv zg) (DE.dv zg))) (zy _))) z7)) (zk (yg zj1 (zd 1) (DE.dv zg)) ye))))))),?_⟩;walk_at "ds";exact⟨⟨by decide,by decide,by decide⟩,by decide,q _ _ _⟩
def zn0:Sp:=λvs H Q _=>∃k:Int,vs = [.int k]/\∀(v:Int) H',Same H H'->Q (.int v) H'
theorem ztx{k:Nat}{x:Str}{ps:List Str}(C:Cal P w K mg base k x ps (z4 K km)):Cal P w K mg base k x ps zn0:=by
 obtain⟨f,fd,F,r⟩:=C;refine⟨f,fd,F.imp λvs H Q E h=>?_,r⟩;obtain⟨k,rfl,q⟩:=h;exact⟨[.val (.int k)],λr=>∃i:Int,r=.val (.int i),.cons (show Rep K H (.int k) _ from .int) .nil,⟨k,rfl,λv=>⟨v,rfl⟩⟩,λv H' r sm rp ⟨i,e⟩=>by subst e;cases (show Rep K H' (.int i) v from rp);exact q i H' sm⟩
theorem zf4(B:Blt mg)(F:Fun K "_law_draw" "_law_draw" xu f fd)(Cd:Cal P w K mg base 1 "_law_next" ["_law_seed"] (z4 K km)):FnOk P w K mg base CX0 2 f fd ["_law_pen", "_law_many"] (z4 K vm):=by
 have C__law_next:=ztx Cd;refine ztg (F.ok sc__law_draw (λvs H Q E h=>?_) (λcdv A outer s H vs Q E hr h=>?_))
 ·obtain⟨p,m,rfl,_⟩:=h;rfl
 obtain⟨p,m,rfl,hm,hM,⟨a,b,c,hp⟩,q⟩:=h;refine⟨_,(zah (zul (zu7 (zru (zjv zqr (zbw ix_list (pv 0) ww (λ_ _=>rfl)) ww (zy _)) (zot (zjv zqs (zbw ix_list (pv 0) ww (λ_ _=>rfl)) ww (zy _))))) (zah (ze6 (i:=2) sc__law_draw.nd rfl (Or.inl rfl) (zgo zh7 (zbw ix_list (pv 0) ww (λ_ _=>rfl)) (pv 1))) (zah (ze5 (zgo zcu (zbw ix_list (pv 0) ww (λ_ _=>rfl)) (pv 1)) (zh3 (pv 0) ww zct)) (zjq (ze4 (pv 2))))) zou) (zah (ze5 (zcv C__law_next hr rfl (wm (zgo zmc (zcv C__law_next hr rfl (wm (zbw ix_list (pv 0) ww (λ_ _=>rfl)) ke)) ww) ke)) (zh3 (pv 0) ww zct)) (zjq (ze4 (zgo zh7 (zgo zcu (zbw ix_list (pv 0) ww (λ_ _=>rfl)) ww) (pv 1)))))),?_⟩;have hS:SqL K H p [.int a,.int b,.int c]:=SqL.of hp;refine⟨_,rfl,p,_,_,_,rfl,rfl,hS,rfl,rfl,_,rfl,?_⟩;refine zu2 (λc1=>?_) (λc1=>?_)
 ·refine⟨_,rfl,p,_,_,_,rfl,rfl,hS,rfl,_,_,rfl,rfl,_,rfl,?_⟩;refine zu2 (λc2=>?_) (λc2=>?_)
  ·refine⟨_,rfl,p,_,_,_,rfl,rfl,hS,rfl,_,rfl,_,_,rfl,rfl,hm,?_⟩;refine⟨_,rfl,p,_,_,_,rfl,rfl,hS,rfl,_,rfl,_,_,rfl,rfl,⟨hm,hM⟩,?_⟩;refine⟨_,rfl,p,_,_,_,rfl,rfl,hp,rfl,?_⟩;exact⟨_,rfl,q _ _ (Int.emod_nonneg _ (by omega)) (Int.emod_lt_of_pos _ hm) ⟨a / m,b,c,zx⟩ But.write⟩
  ·refine⟨_,rfl,p,_,_,_,rfl,rfl,hS,rfl,_,rfl,λv1 H1 s1=>⟨_,_,rfl,rfl,_,rfl,λv2 H2 s2=>⟨_,rfl,p,_,_,_,rfl,rfl,s2 _ _ (s1 _ _ hp),rfl,?_⟩⟩⟩;refine⟨_,rfl,p,_,_,_,rfl,rfl,SqL.of zx,rfl,_,_,rfl,rfl,⟨by decide,by decide⟩,_,rfl,_,_,rfl,rfl,hm,?_⟩;exact q _ _ (Int.emod_nonneg _ (by omega)) (Int.emod_lt_of_pos _ hm) ⟨a,b,v2,zx⟩ ((But.of_same (s1.trans s2)).trans But.write)
 ·refine zwm ?_;refine⟨_,rfl,p,_,_,_,rfl,rfl,hS,rfl,_,rfl,λv1 H1 s1=>⟨_,_,rfl,rfl,_,rfl,λv2 H2 s2=>⟨_,rfl,p,_,_,_,rfl,rfl,s2 _ _ (s1 _ _ hp),rfl,?_⟩⟩⟩;refine⟨_,rfl,p,_,_,_,rfl,rfl,SqL.of zx,rfl,_,_,rfl,rfl,⟨by decide,by decide⟩,_,rfl,_,_,rfl,rfl,hm,?_⟩;exact q _ _ (Int.emod_nonneg _ (by omega)) (Int.emod_lt_of_pos _ hm) ⟨a,b,v2,zx⟩ ((But.of_same (s1.trans s2)).trans But.write)
def zdp:DSp:=λws Q=>∃ns:List Int,ws = [.scr ns]/\ns.length<=63/\Q (.val (.bool true))
theorem atI_end{α:Type}(xs:List α)(x:α):atI (xs ++ [x]) (-1)=some x:=zgs xs x
theorem sliceD_take0(xs:List D){n:Int}(h:0<=n):v0 xs none (some n)=xs.take n.toNat:=by
 have:=zbx xs n.toNat;rw[Int.toNat_of_nonneg h]at this;exact this
def yf(s:List (Int×Int))(b:Int):Bool:=s.any λr=>decide (r.1<=b/\b<r.2)
def pD(r:Int×Int):D:=.tuple [.int r.1,.int r.2]
def vr:DSp:=λws Q=>∃(s:List (Int×Int)) (b:Int),ws = [.val (.tuple (s.map pD)),.val (.int b)]/\s.length<=10000/\Q (.val (.bool (yf s b)))
theorem zf5(B:Blt mg)(F:Fun K "silent_at" "silent_at" xm f fd):FnOk P w K mg base CX0 1 f fd ["story", "beat"] (z4 K vr):=by
 refine F.dok zfz (λws Q h=>?_) (λcdv A outer s H ws Q E hr h=>?_)
 ·obtain⟨s,b,rfl,_⟩:=h;rfl
 obtain⟨s,b,rfl,hl,q⟩:=h;refine⟨_,(ze (zq (ym (zvf rfl) rfl B.any boot_any (zn (DE.dv (DF.de (v5 rfl (N':=["first", "last", "beat"]) (capt:=["beat"]) (k:=2) (js:=[1]) ⟨rfl,by decide,rfl,by decide,(.cons rfl .nil),rfl,(.cons rfl (Or.inl rfl) rfl (Or.inl rfl) .nil),rfl,by decide⟩ (x8 (zd 0)) (λ_ _ _ _=>(xv (n:=2) rfl (zv (zp (i:=0) (show List.Nodup (["first", "last", "beat"]:List Str) by decide +kernel) rfl (Or.inl rfl) (Or.inr rfl)) (zv (zp (i:=1) (show List.Nodup (["first", "last", "beat"]:List Str) by decide +kernel) rfl (Or.inl rfl) (Or.inr rfl)) y1)))) (λ_ _ _ _=>wc) (λ_ _ _ _=>(zgw zfh zfg (zd 0) (zd 2) (zd 1)))))) z7)))),?_⟩;walk_at "ds";rw[List.length_map];refine⟨by omega,va pD (λr=>.bool (decide (r.1<=b/\b<r.2))) (λr hr k hk=>?_) ⟨s.map λr=>decide (r.1<=b/\b<r.2),?_,?_⟩⟩
 ·simp only[pD];walk_at "ds"
  split
  ·next c=>simpa[c]using hk
  ·next c=>simpa[c]using hk
 ·have:=j8 (s.map λr=>decide (r.1<=b/\b<r.2));rw[List.map_map]at this;exact this
 ·rw[List.any_map];exact q
theorem zko{r:Int×Int}(h1 : -1000000000<=r.1)(h2:r.1<=1000000000)(h3 : -1000000000<=r.2)(h4:r.2<=1000000000):Sh (pD r) 89 1 :=
 Sh.tup (n:=41) (k:=0) (m:=2) (zan (Sh.intB (by omega) (by omega)) (zan (Sh.intB (by omega) (by omega)) znh)) (Nat.le_refl 2)
def whB:D->Bool
 |.int _=>true
 |_=>false
def inB(lo hi:Int):D->Bool
 |.int i=>decide (lo<=i/\i<=hi)
 |_=>false
def jh:DSp:=λws Q=>∃d:D,ws = [.val d]/\Q (.val (.bool (whB d)))
theorem zhn(B:Blt mg)(F:Fun K "is_whole" "is_whole" xy f fd):FnOk P w K mg base CX0 1 f fd ["thing"] (z4 K jh):=by
 refine F.dok zhk (λws Q h=>?_) (λcdv A outer s H ws Q E hr h=>?_)
 ·obtain⟨d,rfl,_⟩:=h;rfl
 obtain⟨d,rfl,q⟩:=h;refine⟨_,(ze (zq (j5 (zbf (n := "int") zvg rfl B.isinstance boot_isinstance (zd 0) rfl B.intT boot_int) (zbc (zsr (zbf (n := "bool") zs6 rfl B.isinstance boot_isinstance (zd 0) rfl B.boolT boot_bool)))))),?_⟩;walk_at "ds"
 cases d <;> exact q
def qg:DSp:=λws Q=>∃(d:D) (lo hi:Int),ws = [.val d,.val (.int lo),.val (.int hi)]/\Q (.val (.bool (inB lo hi d)))
theorem zho(B:Blt mg)(F:Fun K "whole_in" "whole_in" xz f fd)(C_is_whole:Cal P w K mg base 1 "is_whole" ["thing"] (z4 K jh)):FnOk P w K mg base CX0 2 f fd ["thing", "least", "most"] (z4 K qg):=by
 refine F.dok zhl (λws Q h=>?_) (λcdv A outer s H ws Q E hr h=>?_)
 ·obtain⟨d,lo,hi,rfl,_⟩:=h;rfl
 obtain⟨d,lo,hi,rfl,q⟩:=h;refine⟨_,(ze (zq (j5 (zj C_is_whole hr rfl (zm 0 zl)) (zbc (zgw zfh zfh (zd 1) (zd 0) (zd 2)))))),?_⟩;walk_at "ds";refine⟨d,rfl,?_⟩
 cases d with
 |int i=>
  simp only[whB];walk_at "ds"
  split
  ·next c=>simpa[inB,c]using q
  ·next c=>simpa[inB,c]using q
 |_=>simp only[whB];walk_at "ds";exact q
def bt(N i:Nat):Bool:=decide (N / 2 ^ i % 2=1)
def qp(acc:List (Int×Int))(b:Int):List (Int×Int):=match acc.getLast? with
 |some r=>if r.2=b then acc.dropLast ++ [(r.1,b+1)] else acc ++ [(b,b+1)]
 |none=>[(b,b+1)]
theorem ji(b:Int):qp [] b = [(b,b+1)]:=rfl
theorem jj(acc:List (Int×Int))(r:Int×Int)(b:Int):qp (acc ++ [r]) b=if r.2=b then acc ++ [(r.1,b+1)] else acc ++ [r] ++ [(b,b+1)]:=by
 unfold qp;rw[List.getLast?_append];simp
theorem v6{α:Type}(xs:List α):xs = []\/∃ys y,xs=ys ++ [y]:=by
 rcases List.eq_nil_or_concat xs with h |⟨ys,y,h⟩
 ·exact .inl h
 ·exact .inr ⟨ys,y,by rw[h,List.concat_eq_append]⟩
structure StB(s:List (Int×Int))(n:Int):Prop where
 r:∀r∈s,0<=r.1/\r.1<r.2/\r.2<=n
 l:(s.length:Int)<=n
theorem StB.add{s:List (Int×Int)}{n:Int}(h:StB s n)(h0:0<=n):StB (qp s n) (n+1)/\∀y,yf (qp s n) y=(yf s y || decide (y=n)):=by
 have hl:=h.l;rcases v6 s with rfl |⟨t,r,rfl⟩
 ·rw[ji];refine⟨⟨λr hr=>?_,by simp at hl ⊢;omega⟩,λy=>?_⟩
  ·cases List.mem_singleton.mp hr;simp only[];omega
  ·simp only[yf,List.any_cons,List.any_nil,Bool.or_false,Bool.false_or];exact decide_eq_decide.mpr (by omega)
 ·have hr:=h.r r (by simp);rw[List.length_append,List.length_singleton]at hl;rw[jj]
  split
  ·next z=>
   refine⟨⟨λx hx=>?_,by simp;omega⟩,λy=>?_⟩
   ·rcases List.mem_append.mp hx with hx|hx
    ·have:=h.r x (by simp[hx]);omega
    ·cases List.mem_singleton.mp hx;simp only[];omega
   ·simp only[yf,List.any_append,List.any_cons,List.any_nil,Bool.or_false,Bool.or_assoc];congr 1;rw[Bool.eq_iff_iff];simp only[Bool.or_eq_true,decide_eq_true_eq];omega
  ·refine⟨⟨λx hx=>?_,by simp;omega⟩,λy=>?_⟩
   ·rcases List.mem_append.mp hx with hx|hx
    ·have:=h.r x hx;omega
    ·cases List.mem_singleton.mp hx;simp only[];omega
   ·simp only[yf,List.any_append,List.any_cons,List.any_nil,Bool.or_false,Bool.or_assoc];congr 2;exact decide_eq_decide.mpr (by omega)
theorem StB.more{s:List (Int×Int)}{n m:Int}(h:StB s n)(hm:n<=m):StB s m:=⟨λr hr=>by have:=h.r r hr;omega,by have:=h.l;omega⟩
def stN(N:Nat):Nat->List (Int×Int)
 |0=>[]
 |n+1=>if bt N n=true then qp (stN N n) n else stN N n
theorem zjg(N:Nat):∀n:Nat,StB (stN N n) n/\∀y:Int,yf (stN N n) y=(decide (0<=y) && decide (y<n) && bt N y.toNat)
 |0=>by
  refine⟨⟨λr hr=>(by cases hr),Int.le_refl 0⟩,λy=>?_⟩;show false=_
  by_cases z:0<=y
  ·have:¬ (y<((0:Nat):Int)):=by omega
   rw[decide_eq_false this];simp
  ·rw[decide_eq_false z];rfl
 |n+1=>by
  obtain⟨h1,h2⟩:=zjg N n;simp only[stN]
  split
  ·next z=>
   obtain⟨h3,h4⟩:=h1.add (by omega);refine⟨h3,λy=>?_⟩;rw[h4,h2]
   by_cases e:y=n
   ·subst e;simp only[Int.toNat_natCast,z,decide_true,Bool.or_true,Bool.and_true];rw[decide_eq_true (by omega),decide_eq_true (by omega)];rfl
   ·rw[decide_eq_false e,Bool.or_false];congr 2;exact decide_eq_decide.mpr (by omega)
  ·next z=>
   refine⟨h1.more (by omega),λy=>?_⟩;rw[h2]
   by_cases e:y=n
   ·subst e;have z':bt N n=false:=by simpa using z
    simp only[Int.toNat_natCast,z',Bool.and_false]
   ·congr 2;exact decide_eq_decide.mpr (by omega)
theorem zdq{α:Type}(xs:List α)(x:α):ixN (xs ++ [x]).length (-1)=some xs.length:=by
 unfold ixN;simp;omega
theorem zf6{α:Type}(xs:List α)(x y:α):(xs ++ [x]).set xs.length y=xs ++ [y]:=by simp
end
section
variable {P:Program}{w:World}{K:PySem.W.Frag}{mg:Str->Option Value}{base:Heap}{f:Addr}{fd:FuncData}
theorem zaw(N i:Nat):bt N i=N.testBit i:=by
 rw[Nat.testBit_eq_decide_div_mod_eq];rfl
def vh:DSp:=λws Q=>∃bs:List Int,ws = [.val (.list (bs.map PyData.int))]/\bs.length<=10000/\Q (.val (.tuple ((bs.foldl qp []).map pD)))
theorem zhp(s:List (Int×Int))(b:Int):(qp s b).length<=s.length+1:=by
 rcases v6 s with rfl |⟨t,r,rfl⟩
 ·simp[ji]
 ·rw[jj]
  split <;> simp
theorem zce(B:Blt mg)(F:Fun K "stretches_of" "stretches_of" yv f fd):FnOk P w K mg base CX0 1 f fd ["beats"] (z4 K vh):=by
 refine F.dok sc_stretches_of (λws Q h=>?_) (λcdv A outer s H ws Q E hr h=>?_)
 ·obtain⟨bs,rfl,_⟩:=h;rfl
 obtain⟨bs,rfl,hl,q⟩:=h;refine⟨_,(zf (zal (i:=1) sc_stretches_of.nd rfl (Or.inl rfl) (vc ye)) (zf (wo PassesOwn.never rfl (v4 (ya 0)) (zp (i:=2) sc_stretches_of.nd rfl (Or.inl rfl)) (ze (yr (DWt.dt (zcy (y0 (zd 1)) (zaj (yc (zcz hr) (DE.dv (yz (DE.dv (yz (zd 1) (wn zg) (λ_ _=>rfl))) zg (λ_ _=>rfl))) (zd 2) (zy _))))) (ze (zfp 1 (xj (zk (yz (DE.dv (yz (zd 1) (wn zg) (λ_ _=>rfl))) zg (λ_ _=>rfl)) (zk (yg wj (zd 2) (DE.dv zg)) ye))) (wn zg))) (ze (wy 1 (xj (zk (ya 2) (zk (yg wj (zd 2) (DE.dv zg)) ye)))))))) (ze (zq (wb qc rfl B.tupleT boot_tuple (zn (zd 1) z7)))))),?_⟩;walk_at "ds";refine xx (λds σ=>∃(ys:List Int) (acc:List (Int×Int)) (u:Option W),ds=ys.map PyData.int/\σ = [some (.val (.list (bs.map PyData.int))),some (.own (.lst (acc.map pD))),u]/\acc.length+ys.length<=10000/\ys.foldl qp acc=bs.foldl qp []) ?_ ?_ ⟨bs,[],_,rfl,rfl,by simp only[List.length_nil];omega,rfl⟩
 ·rintro d ds σ N ⟨ys,acc,u,e,rfl,hl,ef⟩ k
  cases ys with
  |nil=>cases e
  |cons y ys=>
   cases e;rw[List.length_cons]at hl;rw[List.foldl_cons]at ef;have al:=zhp acc y;have fin:∀s',qp acc y=s'->N [some (.val (.list (bs.map PyData.int))),some (.own (.lst (s'.map pD))),some (.val (.int y))]:=λs' es=>by
    subst es;exact k _ ⟨ys,_,_,rfl,rfl,by omega,ef⟩
   walk_at "ds";rcases v6 acc with rfl |⟨t,r,rfl⟩
   ·rw[List.map_nil];walk_at "ds";exact⟨by decide,fin _ (ji _)⟩
   ·rw[List.length_append,List.length_singleton]at hl;have ea:=jj t r y;rw[List.map_append,List.map_cons,List.map_nil];rw[if_pos (by simp)];refine⟨_,atI_end _ _,?_⟩;simp only[pD];walk_at "ds";refine⟨_,we _ _ _,?_⟩;walk_at "ds"
    by_cases c2:r.2=y
    ·rw[if_pos c2];rw[if_pos c2]at ea;refine⟨_,atI_end _ _,?_⟩;walk_at "ds";refine⟨_,x5 _ _,_,zdq _ _,?_⟩;rw[zf6];have:=fin _ ea;rw[List.map_append]at this;exact this
    ·rw[if_neg c2];rw[if_neg c2]at ea;have:=fin _ ea;rw[List.map_append,List.map_append]at this;exact⟨by simp;omega,this⟩
 ·rintro σ ⟨ys,acc,u,e,rfl,hl,ef⟩
  cases ys with
  |cons y ys=>cases e
  |nil=>
   rw[<-ef]at q;exact q
def ky(N n:Nat):List Int:=((List.range n).filter (bt N)).map λi:Nat=>(i:Int)
theorem zdr(N:Nat):∀n,(ky N n).foldl qp []=stN N n
 |0=>rfl
 |n+1=>by
  unfold ky;rw[List.range_succ,List.filter_append,List.map_append,List.foldl_append];have ih:=zdr N n;unfold ky at ih;rw[ih,stN]
  cases z:bt N n with
  |true=>simp[z]
  |false=>simp[z]
theorem zds{N n:Nat}(h:N<2 ^ n):∀j,stN N (n+j)=stN N n
 |0=>rfl
 |j+1=>by
  have z:bt N (n+j)=false:=by
   rw[zaw];exact Nat.testBit_lt_two_pow (Nat.lt_of_lt_of_le h (Nat.pow_le_pow_right (by decide) (by omega)))
  show stN N ((n+j)+1)=_;rw[stN,z,if_neg (by decide)];exact zds h j
def zax(s:List (Int×Int)):Int:=match s.getLast? with
 |none=>0
 |some r=>r.2
def ko:DSp:=λws Q=>∃s:List (Int×Int),(ws = [.val (.tuple (s.map pD))]\/ws = [.val (.list (s.map pD))])/\Q (.val (.int (zax s)))
theorem zf7(B:Blt mg)(F:Fun K "healed_at" "healed_at" xn f fd):FnOk P w K mg base CX0 1 f fd ["story"] (z4 K ko):=by
 refine F.dok zf0 (λws Q h=>?_) (λcdv A outer s H ws Q E hr h=>?_)
 ·obtain⟨s,rfl|rfl,_⟩:=h <;> rfl
 obtain⟨s,e,q⟩:=h;rcases e with rfl|rfl
 ·rcases List.eq_nil_or_concat s with rfl |⟨s,r,rfl⟩
  ·refine⟨_,(zf (yr (xk (y0 (zd 0))) (ze (zq zg)) z3) (ze (zq (yz (DE.dv (yz (zd 0) (wn zg) (λ_ _=>rfl))) zg (λ_ _=>rfl))))),?_⟩;walk_at "ds";simpa[zax]using q
  ·refine⟨_,(zf (yr (xk (y0 (zd 0))) (ze (zq zg)) z3) (ze (zq (yz (DE.dv (yz (zd 0) (wn zg) (λ_ _=>rfl))) zg (λ_ _=>rfl))))),?_⟩;rw[List.concat_eq_append]at q ⊢;simp only[zax,List.getLast?_append,List.getLast?_singleton,Option.some_or]at q;simp only[List.map_append,List.map_cons,List.map_nil];walk_at "ds";rw[if_neg (by simp)];refine⟨_,atI_end _ _,?_⟩;simp only[pD];walk_at "ds";refine⟨_,we _ _ _,?_⟩;exact q
 ·rcases List.eq_nil_or_concat s with rfl |⟨s,r,rfl⟩
  ·refine⟨_,(zf (yr (xk (y0 (zd 0))) (ze (zq zg)) z3) (ze (zq (yz (DE.dv (yz (zd 0) (wn zg) (λ_ _=>rfl))) zg (λ_ _=>rfl))))),?_⟩;walk_at "ds";simpa[zax]using q
  ·refine⟨_,(zf (yr (xk (y0 (zd 0))) (ze (zq zg)) z3) (ze (zq (yz (DE.dv (yz (zd 0) (wn zg) (λ_ _=>rfl))) zg (λ_ _=>rfl))))),?_⟩;rw[List.concat_eq_append]at q ⊢;simp only[zax,List.getLast?_append,List.getLast?_singleton,Option.some_or]at q;simp only[List.map_append,List.map_cons,List.map_nil];walk_at "ds";rw[if_neg (by simp)];refine⟨_,atI_end _ _,?_⟩;simp only[pD];walk_at "ds";refine⟨_,we _ _ _,?_⟩;exact q
def zay:List (Int×Int)->Int->Int
 |[],b=>b
 |r::s,b=>if r.1<=b/\b<r.2 then r.2 else zay s b
def jy:DSp:=λws Q=>∃(s:List (Int×Int)) (b:Int),ws = [.val (.tuple (s.map pD)),.val (.int b)]/\Q (.val (.int (zay s b)))
theorem zea(B:Blt mg)(F:Fun K "next_sound" "next_sound" xc f fd):FnOk P w K mg base CX0 1 f fd ["story", "beat"] (z4 K jy):=by
 refine F.dok sc_next_sound (λws Q h=>?_) (λcdv A outer s H ws Q E hr h=>?_)
 ·obtain⟨s,b,rfl,_⟩:=h;rfl
 obtain⟨s,b,rfl,q⟩:=h;refine⟨_,(zf (wo PassesOwn.never rfl (v4 (ya 0)) (xv (n:=2) rfl (zv (zp (i:=2) sc_next_sound.nd rfl (Or.inl rfl)) (zv (zp (i:=3) sc_next_sound.nd rfl (Or.inl rfl)) y1))) (ze (yr (zmt zfh zfg (zd 2) (zd 1) (zd 3)) (ze (zq (ya 3))) z3))) (ze (zq (ya 1)))),?_⟩;walk_at "ds";refine xx (λds σ=>∃(z:List (Int×Int)) (u v:Option W),ds=z.map pD/\σ = [some (.val (.tuple (s.map pD))),some (.val (.int b)),u,v]/\Q (.val (.int (zay z b)))) ?_ ?_ ⟨s,none,none,rfl,rfl,q⟩
 ·rintro d ds σ N ⟨z,u,v,e,rfl,q⟩ k
  cases z with
  |nil=>cases e
  |cons r z=>
   cases e;simp only[pD];walk_at "ds";simp only[zay]at q
   by_cases c1:r.1<=b
   ·by_cases c2:b<r.2
    ·rw[if_pos ⟨c1,c2⟩]at q;simpa[c1,c2]using q
    ·rw[if_neg (by omega)]at q;simp only[c1,c2,if_true,if_false,decide_true,decide_false,Bool.false_eq_true];exact k _ ⟨z,_,_,rfl,rfl,q⟩
   ·rw[if_neg (by omega)]at q;simp only[c1,if_false,decide_false,Bool.false_eq_true];exact k _ ⟨z,_,_,rfl,rfl,q⟩
 ·rintro σ ⟨z,u,v,e,rfl,q⟩
  cases z with
  |nil=>walk_at "ds";exact q
  |cons y ys=>cases e
def zl4:Option Int->D
 |none=>.none
 |some x=>.int x
def zdt:List (Int×Int)->Int->Option Int
 |[],_=>none
 |r::s,b=>if b<r.2 then some (max r.1 b) else zdt s b
def jk:DSp:=λws Q=>∃(s:List (Int×Int)) (b:Int),ws = [.val (.tuple (s.map pD)),.val (.int b)]/\Q (.val (zl4 (zdt s b)))
theorem zdu(B:Blt mg)(F:Fun K "next_silent" "next_silent" y3 f fd):FnOk P w K mg base CX0 1 f fd ["story", "beat"] (z4 K jk):=by
 refine F.dok sc_next_silent (λws Q h=>?_) (λcdv A outer s H ws Q E hr h=>?_)
 ·obtain⟨s,b,rfl,_⟩:=h;rfl
 obtain⟨s,b,rfl,q⟩:=h;refine⟨_,(zf (wo PassesOwn.never rfl (v4 (ya 0)) (xv (n:=2) rfl (zv (zp (i:=2) sc_next_silent.nd rfl (Or.inl rfl)) (zv (zp (i:=3) sc_next_silent.nd rfl (Or.inl rfl)) y1))) (ze (yr (yc zfg (zd 1) (zd 3) (zy _)) (ze (zq (ym (zc2 rfl) rfl B.max boot_max (zn (zd 2) (zn (zd 1) z7))))) z3))) (ze (zq zcx))),?_⟩;walk_at "ds";refine xx (λds σ=>∃(z:List (Int×Int)) (u v:Option W),ds=z.map pD/\σ = [some (.val (.tuple (s.map pD))),some (.val (.int b)),u,v]/\Q (.val (zl4 (zdt z b)))) ?_ ?_ ⟨s,none,none,rfl,rfl,q⟩
 ·rintro d ds σ N ⟨z,u,v,e,rfl,q⟩ k
  cases z with
  |nil=>cases e
  |cons r z=>
   cases e;simp only[pD];walk_at "ds";simp only[zdt]at q
   by_cases c:b<r.2
   ·rw[if_pos c]at q ⊢;exact q
   ·rw[if_neg c]at q ⊢;exact k _ ⟨z,_,_,rfl,rfl,q⟩
 ·rintro σ ⟨z,u,v,e,rfl,q⟩
  cases z with
  |nil=>walk_at "ds";exact q
  |cons y ys=>cases e
def vt(a b:Int)(r:Int×Int):Int:=max 0 (min r.2 b-max r.1 a)
def wu:DSp:=λws Q=>∃(s:List (Int×Int)) (a b:Int),ws = [.val (.tuple (s.map pD)),.val (.int a),.val (.int b)]/\s.length<=1000/\Q (.val (.int (s.map (vt a b)).sum))
theorem zdv(B:Blt mg)(F:Fun K "silent_many" "silent_many" y4 f fd):FnOk P w K mg base CX0 1 f fd ["story", "first", "last"] (z4 K wu):=by
 refine F.dok zdn (λws Q h=>?_) (λcdv A outer s H ws Q E hr h=>?_)
 ·obtain⟨s,a,b,rfl,_⟩:=h;rfl
 obtain⟨s,a,b,rfl,hl,q⟩:=h;refine⟨_,(ze (zq (ym (zq8 rfl) rfl B.sum boot_sum (zn (DE.dv (DF.de (v5 rfl (N':=["start", "end", "last", "first"]) (capt:=["last", "first"]) (k:=2) (js:=[2,1]) ⟨rfl,by decide,rfl,by decide,(.cons rfl (.cons rfl .nil)),rfl,(.cons rfl (Or.inl rfl) rfl (Or.inl rfl) (.cons rfl (Or.inl rfl) rfl (Or.inl rfl) .nil)),rfl,by decide⟩ (x8 (zd 0)) (λ_ _ _ _=>(xv (n:=2) rfl (zv (zp (i:=0) (show List.Nodup (["start", "end", "last", "first"]:List Str) by decide +kernel) rfl (Or.inl rfl) (Or.inr rfl)) (zv (zp (i:=1) (show List.Nodup (["start", "end", "last", "first"]:List Str) by decide +kernel) rfl (Or.inl rfl) (Or.inr rfl)) y1)))) (λ_ _ _ _=>wc) (λ_ _ _ _=>(ym (zc2 rfl) rfl B.max boot_max (zn (DE.dv zg) (zn (DE.dv (yg vz (DE.dv (ym (zj3 rfl) rfl B.min boot_min (zn (zd 1) (zn (zd 2) z7)))) (DE.dv (ym (zc2 rfl) rfl B.max boot_max (zn (zd 0) (zn (zd 3) z7)))))) z7) vx)))))) z7)))),?_⟩;walk_at "ds";rw[List.length_map];refine⟨by omega,va pD (λr=>.int (vt a b r)) (λr hr k hk=>?_) ?_⟩
 ·simp only[pD];walk_at "ds";exact hk
 ·refine⟨_,?_,q⟩;have:=zbd (s.map (vt a b));rw[List.map_map]at this;exact this
def zvu(s:List (Int×Int))(r:Int×Int):Prop:=∃i:Nat,s[i]?=some r/\∀(j:Nat) (y:Int×Int),s[j]?=some y->y.2-y.1<=r.2-r.1/\(j<i->y.2-y.1<r.2-r.1)
def zw5:D->Int
 |.tuple [.int a,.int b]=>b-a
 |_=>0
def jz:DSp:=λws Q=>∃s:List (Int×Int),ws = [.val (.tuple (s.map pD))]/\(s = []->Q (.val .none))/\∀r,zvu s r->Q (.val (pD r))
theorem zeb(B:Blt mg){T:Addr}(F:Fun K "longest_of" "longest_of" xf f fd){c:Addr}(hB:jf mg base)(hC:PySem.W.CodeHd base c T)(hcd:fd.code=.ref c):FnOk P w K mg base CX0 4 f fd ["story"] (qf "longest_of.<locals>.<lambda>" T (z4 K jz)):=by
 refine F.dokT zd7 (λws Q h=>?_) (λA outer s H ws Q E hr hT h=>?_)
 ·obtain⟨s,rfl,_⟩:=h;rfl
 obtain⟨s,rfl,q0,q1⟩:=h;refine⟨_,(ze (zq (zp3 (k:=1) (N:=["stretch"]) (y := "stretch") rfl hr rfl B.max (zn (zd 0) z7) hT hC hcd hB rfl rfl rfl (by exact⟨rfl,rfl,rfl,by decide +kernel,rfl,by decide +kernel,by decide +kernel⟩) (λ_ _ _ _=>rfl) (λA outer s H E f cd hr=>yg vz (DE.dv (yz (zd 0) zg (λ_ _=>rfl))) (DE.dv (yz (zd 0) zg (λ_ _=>rfl))))))),?_⟩;walk_at "ds";refine⟨zw5,λx hx=>?_,λz=>?_,λi x hx mx=>?_⟩
 ·obtain⟨r,_,rfl⟩:=List.mem_map.mp hx;simp only[pD];walk_at "ds";refine⟨_,we _ _ _,_,x5 _ _,?_⟩;walk_at "ds";rfl
 ·exact q0 (List.map_eq_nil_iff.mp z)
 ·rw[List.getElem?_map]at hx
  cases e:s[i]? with
  |none=>rw[e]at hx;cases hx
  |some r=>
   rw[e]at hx
   cases hx;refine q1 r ⟨i,e,λj y hy=>?_⟩;exact mx j (pD y) (by rw[List.getElem?_map,hy];rfl)
end
section
variable {P:Program}{w:World}{K:PySem.W.Frag}{mg:Str->Option Value}{base:Heap}{f:Addr}{fd:FuncData}
def ch:Nat->Nat->Nat
 |_,0=>1
 |0,_+1=>0
 |n+1,k+1=>ch n k+ch n (k+1)
theorem zbt:∀{n k:Nat},n<k->ch n k=0
 |0,0,h=>absurd h (Nat.lt_irrefl 0)
 |_+1,0,h=>absurd h (Nat.not_lt_zero _)
 |0,k+1,_=>rfl
 |n+1,k+1,h=>by
  simp only[ch];rw[zbt (show n<k by omega),zbt (show n<k+1 by omega)]
theorem zf8:∀n:Nat,ch n n=1
 |0=>rfl
 |n+1=>by simp only[ch];rw[zf8 n,zbt (Nat.lt_succ_self n)]
theorem qh:∀n:Nat,ch n 0=1
 |0=>rfl
 |_+1=>rfl
theorem zf9:∀n k:Nat,ch n k *(n-k)=ch n (k+1) *(k+1)
 |0,0=>rfl
 |0,k+1=>by simp[ch]
 |n+1,0=>by
  have:=zf9 n 0;rw[qh]at this;simp only[ch,qh];omega
 |n+1,k+1=>by
  have h1:=zf9 n k;have h2:=zf9 n (k+1);simp only[ch]
  by_cases c:k+1<=n
  ·rw[Nat.add_mul,Nat.add_mul,show n+1-(k+1)=n-k by omega,h1,<-h2];have e:ch n (k+1) *(k+1)+ch n (k+1) *(n-k)=ch n (k+1) *(n+1):=by rw[<-Nat.mul_add];congr 1;omega
   have e2:ch n (k+1) *(k+1+1)+ch n (k+1) *(n-(k+1))=ch n (k+1) *(n+1):=by rw[<-Nat.mul_add];congr 1;omega
   rw[e,e2]
  ·rw[show n+1-(k+1)=0 by omega,zbt (show n<k+1 by omega),zbt (show n<k+1+1 by omega)];simp
theorem zjh:∀{n k:Nat},k<=n->ch n k=ch n (n-k)
 |0,k,h=>by rw[show k=0 by omega]
 |n+1,0,_=>by rw[Nat.sub_zero,zf8,qh]
 |n+1,k+1,h=>by
  by_cases c:k=n
  ·subst c;rw[zf8,Nat.sub_self,qh]
  ·have h1:=zjh (n:=n) (k:=k) (by omega);have h2:=zjh (n:=n) (k:=k+1) (by omega);rw[show n+1-(k+1)=(n-(k+1))+1 by omega];simp only[ch];rw[h1,h2,show n-(k+1)+1=n-k by omega,Nat.add_comm]
def chI(n k:Int):Int:=if k<0\/n<k then 0 else ch n.toNat k.toNat
def zdw:DSp:=λws Q=>∃(n k:Int),ws = [.val (.int n),.val (.int k)]/\0<=n/\n<=1000/\Q (.val (.int (chI n k)))
theorem zji(B:Blt mg)(F:Fun K "choices" "choices" wf f fd):FnOk P w K mg base CX0 1 f fd ["n", "k"] (z4 K zdw):=by
 refine F.dok sc_choices (λws Q h=>?_) (λcdv A outer s H ws Q E hr h=>?_)
 ·obtain⟨n,k,rfl,_⟩:=h;rfl
 obtain⟨n,k,rfl,h0,hn,q⟩:=h;refine⟨_,(zf (yr (DWt.dt (w4 (yc zfg (zd 1) (DE.dv zg) (zy _)) (wk (yc zb7 (zd 1) (zd 0) (zy _))))) (ze (zq zg)) z3) (zf (xi (i:=2) sc_choices.nd rfl (Or.inl rfl) zg) (zf (wo PassesOwn.never rfl (vv rfl B.range (zk (ym (zj3 rfl) rfl B.min boot_min (zn (zd 1) (zn (DE.dv (yg vz (zd 0) (zd 1))) z7))) ye)) (zp (i:=3) sc_choices.nd rfl (Or.inl rfl)) (ze (xi (i:=2) sc_choices.nd rfl (Or.inl rfl) (yg zss (DE.dv (yg zj2 (zd 2) (DE.dv (yg vz (zd 0) (zd 3))))) (DE.dv (yg wj (zd 3) (DE.dv zg))))))) (ze (zq (ya 2)))))),?_⟩;walk_at "ds";unfold chI at q
 by_cases c1:k<0
 ·rw[if_pos c1];rw[if_pos (.inl c1)]at q;exact q
 ·rw[if_neg c1]
  by_cases c2:n<k
  ·rw[if_pos c2];rw[if_pos (.inr c2)]at q;exact q
  ·rw[if_neg c2];rw[if_neg (by omega)]at q;walk_at "ds";refine⟨by omega,?_⟩;refine xx (λds σ=>∃(a j:Nat) (u:Option W),ds=wa (a:Int) j/\a+j=(min k (n-k)).toNat/\σ = [some (.val (.int n)),some (.val (.int k)),some (.val (.int (ch n.toNat a))),u]) ?_ ?_ ⟨0,(min k (n-k)).toNat,none,by simp,by simp,by rw[qh];rfl⟩
   ·rintro d ds σ N ⟨a,j,u,e,ha,rfl⟩ kk
    cases j with
    |zero=>cases e
    |succ j=>
     rw[zb0]at e
     cases e;have hm:=zf9 n.toNat a;have e1:((ch n.toNat a:Nat):Int) *(n-(a:Int))=((ch n.toNat (a+1):Nat):Int) *((a:Int)+1):=by
      have:=congrArg (Nat.cast (R:=Int)) hm;rw[Int.natCast_mul,Int.natCast_mul,show((n.toNat-a:Nat):Int)=n-a by omega]at this;exact this
     have e2:((ch n.toNat a:Nat):Int) *(n-(a:Int)) /((a:Int)+1)=((ch n.toNat (a+1):Nat):Int):=by
      rw[e1,Int.mul_ediv_cancel _ (by omega)]
     walk_at "ds";rw[e2];exact⟨.inr ⟨by omega,by omega⟩,⟨by omega,by omega⟩,kk _ ⟨a+1,j,_,rfl,by omega,rfl⟩⟩
   ·rintro σ ⟨a,j,u,e,ha,rfl⟩
    cases j with
    |succ j=>rw[zb0]at e;cases e
    |zero=>
     walk_at "ds";have e3:ch n.toNat a=ch n.toNat k.toNat:=by
      by_cases c:k<=n-k
      ·congr 1;omega
      ·rw[zjh (n:=n.toNat) (k:=k.toNat) (by omega)];congr 1;omega
     rw[e3];exact q
def pcn(m:Nat):Nat->Nat
 |0=>0
 |n+1=>pcn m n+if bt m n=true then 1 else 0
theorem zvv{n m:Nat}(h:m<2 ^ n):bt m n=false:=by rw[zaw];exact Nat.testBit_lt_two_pow h
theorem zvw{n m:Nat}(h:m<2 ^ n):bt (2 ^ n+m) n=true:=by
 rw[zaw,Nat.testBit_two_pow_add_eq,Nat.testBit_lt_two_pow h];rfl
theorem zvx{n i m:Nat}(h:i<n):bt (2 ^ n+m) i=bt m i:=by rw[zaw,zaw,Nat.testBit_two_pow_add_gt h]
theorem zey{m m':Nat}:∀{n:Nat},(∀i,i<n->bt m i=bt m' i)->pcn m n=pcn m' n
 |0,_=>rfl
 |n+1,h=>by
  simp only[pcn];rw[zey λi hi=>h i (by omega),h n (by omega)]
theorem zhq{m n:Nat}(h:m<2 ^ n):∀j,pcn m (n+j)=pcn m n
 |0=>rfl
 |j+1=>by
  show pcn m (n+j)+(if bt m (n+j)=true then 1 else 0)=_;rw[zvv (Nat.lt_of_lt_of_le h (Nat.pow_le_pow_right (by decide) (Nat.le_add_right n j))),zhq h j];simp
def pc(m:Nat):Nat:=pcn m 25
theorem zkp{m n:Nat}(h:m<2 ^ n)(hn:n<=25):pc m=pcn m n:=by
 have:=zhq h (25-n);rw[show n+(25-n)=25 by omega]at this;exact this
theorem zn1(m:Nat):∀n,pcn m n<=n
 |0=>Nat.le_refl _
 |n+1=>by
  have:=zn1 m n;simp only[pcn]
  split <;> omega
theorem zvy{m n:Nat}(h:m<2 ^ n)(hn:n<=24):pc (2 ^ n+m)=pc m+1:=by
 rw[zkp (n:=n+1) (by rw[Nat.pow_succ];omega) (by omega),zkp h (by omega)];simp only[pcn];rw[zvw h,zey λi hi=>zvx hi];simp
def nw(n:Nat)(k:Int):List Nat:=(List.range (2 ^ n)).filter λm=>decide ((pc m:Int)=k)
theorem zga{n:Nat}(hn:n<=24)(k:Int):nw (n+1) k=nw n k++(nw n (k-1)).map (2 ^ n + ·):=by
 unfold nw;rw[Nat.pow_succ,Nat.mul_two,List.range_add,List.filter_append,List.filter_map];congr 2;refine List.filter_congr λm hm=>?_;simp only[Function.comp];rw[zvy (List.mem_range.mp hm) hn];exact decide_eq_decide.mpr (by omega)
theorem zn2{n:Nat}{k:Int}(h:k<0):nw n k = []:=List.filter_eq_nil_iff.mpr λm _=>by simp;omega
theorem zty{n:Nat}{k:Int}(hn:n<=25)(h:(n:Int)<k):nw n k = []:=List.filter_eq_nil_iff.mpr λm hm=>by
 have h1:=zkp (List.mem_range.mp hm) hn;have h2:=zn1 m n;simp;omega
theorem zgb(k:Int):nw 0 k=if k=0 then [0] else []:=by
 unfold nw;rw[show List.range (2 ^ 0) = [0] by decide]
 by_cases c:k=0
 ·subst c;rfl
 ·rw[if_neg c];simp[show pc 0=0 by decide];omega
theorem zdx:∀{n:Nat}{k:Nat},n<=24->(nw n k).length=ch n k
 |0,0,_=>by rw[zgb];rfl
 |0,k+1,_=>by rw[zgb,if_neg (by omega)];rfl
 |n+1,0,h=>by
  rw[zga (by omega),List.length_append,List.length_map,zdx (k:=0) (by omega),zn2 (by omega),qh,qh];rfl
 |n+1,k+1,h=>by
  rw[zga (by omega),List.length_append,List.length_map,zdx (by omega),show((k+1:Nat):Int)-1=((k:Nat):Int) by omega,zdx (by omega)];simp only[ch];omega
theorem zrf{n:Nat}{k:Int}{m:Nat}(h:m∈nw n k):m<2 ^ n:=List.mem_range.mp (List.mem_filter.mp h).1
end
section
variable {P:Program}{w:World}{K:PySem.W.Frag}{mg:Str->Option Value}{base:Heap}{f:Addr}{fd:FuncData}
def qi:DSp:=λws Q=>∃(NN n:Nat),ws = [.val (.int NN),.val (.int n)]/\n<=25/\NN<2 ^ n/\Q (.val (.tuple ((stN NN 25).map pD)))
theorem zhr(B:Blt mg)(F:Fun K "story_at" "story_at" x4 f fd)(C_whole_in:Cal P w K mg base 2 "whole_in" ["thing", "least", "most"] (z4 K qg))(C_stretches_of:Cal P w K mg base 1 "stretches_of" ["beats"] (z4 K vh)):FnOk P w K mg base CX0 3 f fd ["number", "n"] (z4 K qi):=by
 refine F.dok zhm (λws Q h=>?_) (λcdv A outer s H ws Q E hr h=>?_)
 ·obtain⟨d,n,rfl,_⟩:=h;rfl
 obtain⟨NN,n,rfl,hn,hN,q⟩:=h;refine⟨_,(zf (yr (xk (y0 (DE.dv (zj C_whole_in hr rfl (zm 0 (yb zg (yb (yg vz (DE.dv (yg zgx (DE.dv zg) (zd 1))) (DE.dv zg)) zl) vx)))))) (ze w5) z3) (ze (zq (zj C_stretches_of hr rfl (yb (DF.de (v5 rfl (N':=["beat", "number"]) (capt:=["number"]) (k:=1) (js:=[0]) ⟨rfl,by decide,rfl,by decide,(.cons rfl .nil),rfl,(.cons rfl (Or.inl rfl) rfl (Or.inl rfl) .nil),rfl,by decide⟩ (DI.w (vv rfl B.range (zk (ya 1) ye))) (λ_ _ _ _=>(zp (i:=0) (show List.Nodup (["beat", "number"]:List Str) by decide +kernel) rfl (Or.inl rfl) (Or.inr rfl))) (λ_ _ _ _=>(jn (yc (zcz hr) (DE.dv (yg zj1 (DE.dv (yg zva (zd 1) (zd 0))) (DE.dv zg))) (DE.dv zg) (zy _)))) (λ_ _ _ _=>(ya 0)))) zl))))),?_⟩;walk_at "ds";refine⟨⟨by omega,by omega,by decide⟩,?_⟩;rw[show(1 * 2 ^ ((n:Nat):Int).toNat:Int)=2 ^ n by rw[Int.one_mul,Int.toNat_natCast]];refine⟨_,_,_,rfl,?_⟩;have pp:((2 ^ n:Nat):Int)=(2:Int) ^ n:=by simp
 have c:inB 0 (2 ^ n-1) (.int NN)=true:=by
  simp only[inB,decide_eq_true_eq];omega
 rw[c];walk_at "ds";rw[zaa];refine⟨by omega,by omega,?_⟩;unfold wa;refine ki (λi:Nat=>PyData.int (0+(i:Nat))) (λi=>if bt NN i=true then some (PyData.int (i:Nat)) else none) (λi hi k hk=>?_) ?_
 ·walk_at "ds";rw[Int.zero_add]
  have e2:((NN:Int) / 2 ^ ((i:Nat):Int).toNat) % 2=((NN / 2 ^ i % 2:Nat):Int):=by
   rw[Int.toNat_natCast];simp
  have e3:(((NN / 2 ^ i % 2:Nat):Int)=1)↔bt NN i=true:=by
   unfold bt;rw[decide_eq_true_eq];omega
  rw[e2];refine⟨by omega,by decide,?_⟩
  by_cases z:bt NN i=true
  ·rw[if_pos (e3.mpr z)];rw[if_pos z]at hk;exact hk
  ·rw[if_neg (λh=>z (e3.mp h))];rw[if_neg z]at hk;exact hk
 ·have e4:(List.range ((n:Nat):Int).toNat).filterMap (λi=>if bt NN i=true then some (PyData.int (i:Nat)) else none)=(ky NN n).map PyData.int:=by
   rw[Int.toNat_natCast];unfold ky;rw[List.map_map];generalize List.range n=rs
   induction rs with
   |nil=>rfl
   |cons x xs ih=>
    rw[List.filterMap_cons,List.filter_cons]
    cases z:bt NN x with
    |true=>simp only[if_true,List.map_cons];rw[ih];rfl
    |false=>simp only[Bool.false_eq_true,if_false];rw[ih]
  rw[e4];refine⟨ky NN n,rfl,?_,?_⟩
  ·unfold ky;rw[List.length_map];have:=List.length_filter_le (bt NN) (List.range n);rw[List.length_range]at this;omega
  ·rw[zdr];have:=zds hN (25-n);rw[show n+(25-n)=25 by omega]at this;rw[this]at q;exact q
def zjj(s:List (Int×Int)):Int:=(s.map λr=>(2:Int) ^ r.2.toNat-2 ^ r.1.toNat).sum
theorem zn3{s:List (Int×Int)}{n:Nat}(h:StB s n):zjj (qp s n)=zjj s+2 ^ n:=by
 have e1:((n:Int)+1).toNat=n+1:=by omega
 rcases v6 s with rfl |⟨t,r,rfl⟩
 ·rw[ji];simp only[zjj,List.map_cons,List.map_nil,List.sum_cons,List.sum_nil,e1,Int.toNat_natCast,Int.pow_succ];omega
 ·rw[jj]
  split
  ·next z=>
   simp only[zjj,List.map_append,List.map_cons,List.map_nil,List.sum_append,List.sum_cons,List.sum_nil,e1,z,Int.toNat_natCast,Int.pow_succ];omega
  ·simp only[zjj,List.map_append,List.map_cons,List.map_nil,List.sum_append,List.sum_cons,List.sum_nil,e1,Int.toNat_natCast,Int.pow_succ];omega
theorem zhs(N:Nat):∀n:Nat,zjj (stN N n)=((N % 2 ^ n:Nat):Int)
 |0=>by simp[zjj,stN,Nat.mod_one]
 |n+1=>by
  have ih:=zhs N n;have e:N % 2 ^ (n+1)=N % 2 ^ n+2 ^ n *(N / 2 ^ n % 2):=Nat.mod_pow_succ;simp only[stN];have hb:bt N n=true↔N / 2 ^ n % 2=1:=by unfold bt;exact decide_eq_true_iff
  by_cases c:bt N n=true
  ·rw[if_pos c,zn3 (zjg N n).1,ih,e,hb.mp c];simp
  ·rcases Nat.mod_two_eq_zero_or_one (N / 2 ^ n) with z|z
   ·rw[if_neg c,ih,e,z];simp
   ·exact absurd (hb.mpr z) c
def zaz:DSp:=λws Q=>∃N:Nat,ws = [.val (.tuple ((stN N 25).map pD))]/\N<2 ^ 25/\Q (.val (.int N))
theorem zgc(B:Blt mg)(F:Fun K "number_of" "number_of" xp f fd):FnOk P w K mg base CX0 1 f fd ["story"] (z4 K zaz):=by
 refine F.dok zf1 (λws Q h=>?_) (λcdv A outer s H ws Q E hr h=>?_)
 ·obtain⟨N,rfl,_⟩:=h;rfl
 obtain⟨NN,rfl,hN,q⟩:=h;refine⟨_,(ze (zq (ym (zq8 rfl) rfl B.sum boot_sum (zn (DE.dv (DF.de (v5 rfl (N':=["first", "last"]) (capt:=[]) (k:=2) (js:=[]) ⟨rfl,by decide,rfl,by decide,.nil,rfl,.nil,rfl,by decide⟩ (x8 (zd 0)) (λ_ _ _ _=>(xv (n:=2) rfl (zv (zp (i:=0) (show List.Nodup (["first", "last"]:List Str) by decide +kernel) rfl (Or.inl rfl) (Or.inr rfl)) (zv (zp (i:=1) (show List.Nodup (["first", "last"]:List Str) by decide +kernel) rfl (Or.inl rfl) (Or.inr rfl)) y1)))) (λ_ _ _ _=>wc) (λ_ _ _ _=>(yg vz (DE.dv (yg zgx (DE.dv zg) (zd 1))) (DE.dv (yg zgx (DE.dv zg) (zd 0)))))))) z7)))),?_⟩;have sb:=(zjg NN 25).1;have ns:=zhs NN 25;rw[Nat.mod_eq_of_lt hN]at ns;have ln:=sb.l;walk_at "ds";rw[List.length_map];refine⟨by omega,va pD (λr=>.int ((2:Int) ^ r.2.toNat-2 ^ r.1.toNat)) (λr hr2 K hK=>?_) ?_⟩
 ·have:=sb.r r hr2;simp only[pD];walk_at "ds";refine⟨⟨by omega,by omega,by decide⟩,⟨by omega,by omega,by decide⟩,?_⟩;rw[Int.one_mul,Int.one_mul];exact hK
 ·refine⟨(stN NN 25).map λr=>(2:Int) ^ r.2.toNat-2 ^ r.1.toNat,?_,?_⟩
  ·have:=zbd ((stN NN 25).map λr=>(2:Int) ^ r.2.toNat-2 ^ r.1.toNat);rw[List.map_map]at this;exact this
  ·rw[<-ns]at q;exact q
def qj:DSp:=λws Q=>∃(n k:Int),ws = [.val (.int n),.val (.int k)]/\0<=n/\n<=900/\Q (.val (.int (chI n k)))
theorem za0(B:Blt mg)(F:Fun K "silent_choices" "silent_choices" yo f fd)(C_choices:Cal P w K mg base 1 "choices" ["n", "k"] (z4 K zdw)):FnOk P w K mg base CX0 2 f fd ["n", "k"] (z4 K qj):=by
 refine F.dok zav (λws Q h=>?_) (λcdv A outer s H ws Q E hr h=>?_)
 ·obtain⟨n,k,rfl,_⟩:=h;rfl
 obtain⟨n,k,rfl,h0,hn,q⟩:=h;refine⟨_,(ze (zq (zj C_choices hr rfl (zm 0 (zm 1 zl))))),?_⟩;walk_at "ds";exact⟨n,k,rfl,h0,by omega,q⟩
def prN(x:Nat×Int):D:=.tuple [.int x.1,.int x.2]
def zdy(b:Nat)(x:Nat×Int):List Nat:=(nw b x.2).map (x.1 + ·)
theorem zl5(x:Nat×Int):zdy 0 x=if x.2=0 then [x.1] else []:=by
 unfold zdy;rw[zgb]
 split <;> rfl
theorem zl6{b:Nat}(hb:b<=24)(x:Nat×Int):zdy (b+1) x=(if x.2<=b then zdy b x else [])++(if 0<x.2 then zdy b (x.1+2 ^ b,x.2-1) else []):=by
 unfold zdy;rw[zga hb,List.map_append,List.map_map];congr 1
 ·split
  ·rfl
  ·rw[zty (by omega) (by omega)];rfl
 ·split
  ·refine List.map_congr_left λm _=>?_;simp only[Function.comp];omega
  ·rw[zn2 (by omega)];rfl
def kz:DSp:=λws Q=>∃(n:Nat) (k:Int),ws = [.val (.int n),.val (.int k)]/\n<=24/\Q (.new ((nw n k).map λm:Nat=>PyData.int m))
theorem zcf(B:Blt mg)(F:Fun K "numbers_with" "numbers_with" yw f fd):FnOk P w K mg base CX0 1 f fd ["n", "k"] (z4 K kz):=by
 refine F.dok sc_numbers_with (λws Q h=>?_) (λcdv A outer s H ws Q E hr h=>?_)
 ·obtain⟨n,k,rfl,_⟩:=h;rfl
 obtain⟨n,k,rfl,hn,q⟩:=h;refine⟨_,(zf (xi (i:=2) sc_numbers_with.nd rfl (Or.inl rfl) (DF.de (vc (zk (xj (zk zg (zk (ya 1) ye) vx)) ye zo7)))) (zf (wo PassesOwn.never rfl (zp7 rfl B.reversed rfl B.range (zk (ya 0) ye)) (zp (i:=3) sc_numbers_with.nd rfl (Or.inl rfl)) (zf (zal (i:=4) sc_numbers_with.nd rfl (Or.inl rfl) (vc ye)) (zf (wo PassesOwn.never rfl (v4 (ya 2)) (xv (n:=2) rfl (zv (zp (i:=5) sc_numbers_with.nd rfl (Or.inl rfl)) (zv (zp (i:=6) sc_numbers_with.nd rfl (Or.inl rfl)) y1))) (zf (yr (yc zfh (zd 6) (zd 3) (zy _)) (ze (wy 4 (xj (zk (ya 5) (zk (ya 6) ye))))) z3) (ze (yr (yc zb7 (zd 6) (DE.dv zg) (zy _)) (ze (wy 4 (xj (zk (yg wj (zd 5) (DE.dv (yg zgx (DE.dv zg) (zd 3)))) (zk (yg vz (zd 6) (DE.dv zg)) ye))))) z3)))) (ze (zta 4 (xi (i:=2) sc_numbers_with.nd rfl (Or.inl rfl) (ya 4))))))) (ze (zcm (v5 rfl (N':=["number", "left"]) (capt:=[]) (k:=2) (js:=[]) ⟨rfl,by decide,rfl,by decide,.nil,rfl,.nil,rfl,by decide⟩ (x8 (zd 2)) (λ_ _ _ _=>(xv (n:=2) rfl (zv (zp (i:=0) (show List.Nodup (["number", "left"]:List Str) by decide +kernel) rfl (Or.inl rfl) (Or.inr rfl)) (zv (zp (i:=1) (show List.Nodup (["number", "left"]:List Str) by decide +kernel) rfl (Or.inl rfl) (Or.inr rfl)) y1)))) (λ_ _ _ _=>(jn (yc (zcz hr) (zd 1) (DE.dv zg) (zy _)))) (λ_ _ _ _=>(ya 0))))))),?_⟩;walk_at "ds";refine⟨⟨by omega,by omega⟩,?_⟩;rw[Int.toNat_natCast];have p24:∀i,i<=n->2 ^ i<=16777216:=λi hi=>by
  have:=Nat.pow_le_pow_right (n:=2) (by decide) (show i<=24 by omega);exact this
 refine zg3 (λi σ=>∃(xs:List (Nat×Int)) (u3 u4 u5 u6:Option W),σ = [some (.val (.int n)),some (.val (.int k)),some (.val (.list (xs.map prN))),u3,u4,u5,u6]/\(xs.map (zdy (n-i))).flatten=nw n k/\xs.length<=2 ^ i) _ _ 0 ⟨[(0,k)],none,none,none,none,rfl,by simp[zdy],by simp⟩ ?_ ?_
 ·rintro i d σ N hd ⟨xs,u3,u4,u5,u6,rfl,hf,hl⟩ kk
  have hd':d=.int ((n:Int)-1-i)/\i<n:=by
   unfold zat at hd;rw[List.getElem?_map]at hd
   by_cases c:i<n
   ·rw[List.getElem?_range c]at hd;exact⟨by simpa using hd.symm,c⟩
   ·rw[List.getElem?_eq_none (by rw[List.length_range];omega)]at hd
    cases hd
  obtain⟨rfl,hi⟩:=hd';rw[Nat.zero_add]at hf hl kk;obtain⟨b,eb⟩:∃b:Nat,n-i=b+1:=⟨n-i-1,by omega⟩
  rw[show(n:Int)-1-i=(b:Int) by omega];rw[eb]at hf;have e2:n-(i+1)=b:=by omega
  rw[e2]at kk;have pi:=p24 (i+1) (by omega);rw[Nat.pow_succ]at pi kk;walk_at "ds";refine xx (λds σ=>∃(rest ys:List (Nat×Int)) (u5 u6:Option W),ds=rest.map prN/\(ys.map (zdy b)).flatten++(rest.map (zdy (b+1))).flatten=nw n k/\ys.length+2 * rest.length<=2 ^ i * 2/\σ = [some (.val (.int n)),some (.val (.int k)),some (.val (.list (xs.map prN))),some (.val (.int b)),some (.own (.lst (ys.map prN))),u5,u6]) ?_ ?_ ⟨xs,[],_,_,rfl,by simpa using hf,by simp;omega,rfl⟩
  ·rintro d ds σ N2 ⟨rest,ys,u5,u6,e,hf,hl,rfl⟩ k2
   cases rest with
   |nil=>cases e
   |cons x rest=>
    cases e;obtain⟨m,l⟩:=x;rw[List.length_cons]at hl;rw[List.map_cons,List.flatten_cons,zl6 (by omega)]at hf;simp only[prN];walk_at "ds";have cp:zk4 1 (b:Int):=⟨by omega,by omega,by decide⟩
    rw[Int.toNat_natCast,Int.one_mul];have ep:∀zs:List (Nat×Int),(zs.map prN) ++ [.tuple [.int ((m:Int)+2 ^ b),.int (l-1)]]=(zs ++ [(m+2 ^ b,l-1)]).map prN:=λzs=>by simp[prN]
    have ep0:∀zs:List (Nat×Int),(zs.map prN) ++ [.tuple [.int (m:Int),.int l]]=(zs ++ [(m,l)]).map prN:=λzs=>by simp[prN]
    by_cases c1:l<=(b:Int)
    ·rw[if_pos c1];rw[if_pos c1]at hf
     by_cases c2:0<l
     ·rw[if_pos c2]at hf ⊢;rw[ep0];refine⟨by rw[List.length_map];omega,cp,by simp;omega,?_⟩;rw[ep];exact k2 _ ⟨rest,ys ++ [(m,l)] ++ [(m+2 ^ b,l-1)],_,_,rfl,by rw[<-hf];simp,by simp;omega,rfl⟩
     ·rw[if_neg c2]at hf ⊢;rw[ep0];exact⟨by rw[List.length_map];omega,k2 _ ⟨rest,ys ++ [(m,l)],_,_,rfl,by rw[<-hf];simp,by simp;omega,rfl⟩⟩
    ·rw[if_neg c1];rw[if_neg c1]at hf
     by_cases c2:0<l
     ·rw[if_pos c2]at hf ⊢;rw[ep];exact⟨cp,by rw[List.length_map];omega,k2 _ ⟨rest,ys ++ [(m+2 ^ b,l-1)],_,_,rfl,by rw[<-hf];simp,by simp;omega,rfl⟩⟩
     ·rw[if_neg c2]at hf ⊢;exact k2 _ ⟨rest,ys,_,_,rfl,by rw[<-hf];simp,by omega,rfl⟩
  ·rintro σ ⟨rest,ys,u5,u6,e,hf,hl,rfl⟩
   cases rest with
   |cons x rest=>cases e
   |nil=>
    walk_at "ds";exact kk _ ⟨ys,_,_,_,_,rfl,by simpa using hf,by simpa using hl⟩
 ·rintro σ ⟨xs,u3,u4,u5,u6,rfl,hf,hl⟩;rw[show 0+(zat ((n:Int)-1) n).length=n by simp[zat]]at hf hl;rw[Nat.sub_self]at hf;have pn:=p24 n (Nat.le_refl _);walk_at "ds";rw[List.length_map];refine⟨by omega,ki prN (λx=>if x.2=0 then some (PyData.int (x.1:Nat)) else none) (λx _ K hK=>?_) ?_⟩
  ·simp only[prN];walk_at "ds"
   by_cases c:x.2=0
   ·rw[if_pos c]at hK ⊢;exact hK
   ·rw[if_neg c]at hK ⊢;exact hK
  ·have e3:∀zs:List (Nat×Int),zs.filterMap (λx=>if x.2=0 then some (PyData.int (x.1:Nat)) else none)=((zs.map (zdy 0)).flatten).map λm:Nat=>PyData.int m:=by
    intro zs
    induction zs with
    |nil=>rfl
    |cons x zs ih=>
     rw[List.filterMap_cons,List.map_cons,List.flatten_cons,List.map_append,zl5]
     by_cases c:x.2=0
     ·simp only[c,if_true,ih];rfl
     ·simp only[c,if_false,ih];rfl
   rw[e3,hf];exact q
def ja:DSp:=λws Q=>∃(n k:Nat),ws = [.val (.int n),.val (.int k)]/\n<=24/\(nw n k).length<=300/\Q (.new ((nw n k).map λm=>PyData.tuple ((stN m 25).map pD)))
theorem zcg(B:Blt mg)(F:Fun K "stories_with" "stories_with" yx f fd){t_MOST_STORIES:Tok}(G_MOST_STORIES:mg "MOST_STORIES" = some (.int 300 t_MOST_STORIES))(C_story_at:Cal P w K mg base 3 "story_at" ["number", "n"] (z4 K qi))(C_silent_choices:Cal P w K mg base 2 "silent_choices" ["n", "k"] (z4 K qj))(C_numbers_with:Cal P w K mg base 1 "numbers_with" ["n", "k"] (z4 K kz)):FnOk P w K mg base CX0 4 f fd ["n", "k"] (z4 K ja):=by
 refine F.dok sc_stories_with (λws Q h=>?_) (λcdv A outer s H ws Q E hr h=>?_)
 ·obtain⟨n,k,rfl,_⟩:=h;rfl
 obtain⟨n,k,rfl,hn,h3,q2⟩:=h;refine⟨_,(zf (xi (i:=2) sc_stories_with.nd rfl (Or.inl rfl) (zj C_silent_choices hr rfl (zm 0 (zm 1 zl)))) (zf (yr (yc zb7 (zd 2) (DE.dv (x6 (d:=.int 300) (v:=.int 300) rfl G_MOST_STORIES ⟨_,rfl⟩ (λ_=>.int))) (zy _)) (ze w5) z3) (ze (zcm (v5 rfl (N':=["number", "n"]) (capt:=["n"]) (k:=1) (js:=[0]) ⟨rfl,by decide,rfl,by decide,(.cons rfl .nil),rfl,(.cons rfl (Or.inl rfl) rfl (Or.inl rfl) .nil),rfl,by decide⟩ (x8 (DE.dv (zj C_numbers_with hr rfl (zm 0 (zm 1 zl))))) (λ_ _ _ _=>(zp (i:=0) (show List.Nodup (["number", "n"]:List Str) by decide +kernel) rfl (Or.inl rfl) (Or.inr rfl))) (λ_ _ _ _=>wc) (λ_ _ _ _=>(zj C_story_at hr rfl (zm 0 (zm 1 zl))))))))),?_⟩;walk_at "ds";refine⟨n,k,rfl,by omega,by omega,?_⟩;have el:chI (n:Int) k=((nw n k).length:Int):=by
  rw[zdx hn];unfold chI
  by_cases c:n<k
  ·rw[if_pos (by omega),zbt c];rfl
  ·rw[if_neg (by omega)];simp
 rw[el];walk_at "ds";rw[if_neg (by omega)];refine⟨n,k,rfl,hn,?_⟩;walk_at "ds";rw[List.length_map];refine⟨by omega,va (λm:Nat=>PyData.int m) (λm=>PyData.tuple ((stN m 25).map pD)) (λm hm K hK=>?_) q2⟩;walk_at "ds";have lt:=zrf hm;exact⟨m,n,rfl,by omega,lt,hK⟩
end
section
variable {P:Program}{w:World}{K:PySem.W.Frag}{mg:Str->Option Value}{base:Heap}{f:Addr}{fd:FuncData}
def Mm(s:List (Int×Int))(x:Int):Prop:=∃r∈s,r.1<=x/\x<r.2
def Cn(s:List (Int×Int)):Prop:=(∀r∈s,r.1<r.2)/\s.Pairwise λa b=>a.2<b.1
theorem sil_iff{s:List (Int×Int)}{b:Int}:yf s b=true↔Mm s b:=by
 unfold yf Mm;rw[List.any_eq_true];constructor
 ·rintro ⟨r,hr,h⟩;exact⟨r,hr,of_decide_eq_true h⟩
 ·rintro ⟨r,hr,h⟩;exact⟨r,hr,decide_eq_true h⟩
theorem jl{x:Int}:¬ Mm [] x:=λ⟨_,hr,_⟩=>nomatch hr
theorem mm_cons{r:Int×Int}{s:List (Int×Int)}{x:Int}:Mm (r::s) x↔(r.1<=x/\x<r.2)\/Mm s x:=by
 unfold Mm;simp
theorem qt{s t:List (Int×Int)}{x:Int}:Mm (s++t) x↔Mm s x\/Mm t x:=by
 unfold Mm;simp only[List.mem_append];constructor
 ·rintro ⟨r,h|h,q⟩
  ·exact .inl ⟨r,h,q⟩
  ·exact .inr ⟨r,h,q⟩
 ·rintro (⟨r,h,q⟩ |⟨r,h,q⟩)
  ·exact⟨r,.inl h,q⟩
  ·exact⟨r,.inr h,q⟩
theorem zae{c:Int×Int}{x:Int}:Mm [c] x↔c.1<=x/\x<c.2:=by
 unfold Mm;simp
theorem Cn.head{r:Int×Int}{s:List (Int×Int)}(h:Cn (r::s)):r.1<r.2/\∀x∈s,r.2<x.1:=⟨h.1 r List.mem_cons_self,(List.pairwise_cons.mp h.2).1⟩
theorem Cn.tail{r:Int×Int}{s:List (Int×Int)}(h:Cn (r::s)):Cn s:=⟨λx hx=>h.1 x (List.mem_cons_of_mem _ hx),(List.pairwise_cons.mp h.2).2⟩
theorem zjk:Cn []:=⟨λ_ h=>(nomatch h),List.Pairwise.nil⟩
theorem zdz{s t:List (Int×Int)}(hs:Cn s)(ht:Cn t)(h:∀a∈s,∀b∈t,a.2<b.1):Cn (s++t) :=
 ⟨λr hr=>(List.mem_append.mp hr).elim (hs.1 r) (ht.1 r),List.pairwise_append.mpr ⟨hs.2,ht.2,h⟩⟩
theorem zd0{c:Int×Int}(h:c.1<c.2):Cn [c]:=⟨λr hr=>by cases List.mem_singleton.mp hr;exact h,List.pairwise_singleton _ _⟩
theorem Cn.snoc{s:List (Int×Int)}{c:Int×Int}(h:Cn (s ++ [c])):Cn s/\c.1<c.2/\∀a∈s,a.2<c.1:=by
 obtain⟨h1,h2⟩:=h;rw[List.pairwise_append]at h2;exact⟨⟨λr hr=>h1 r (List.mem_append_left _ hr),h2.1⟩,h1 c (List.mem_append_right _ List.mem_cons_self),λa ha=>h2.2.2 a ha c List.mem_cons_self⟩
theorem zrg{a b:Int×Int}{s t:List (Int×Int)}(ha:Cn (a::s))(hb:Cn (b::t))(h:∀x,Mm (a::s) x->Mm (b::t) x):b.1<=a.1:=by
 have h1:=ha.head.1;have h2:=hb.head;obtain⟨r,hr,h3,h4⟩:=h a.1 ⟨a,List.mem_cons_self,by omega,h1⟩;rcases List.mem_cons.mp hr with rfl|hr
 ·exact h3
 ·have:=h2.2 r hr;have:=h2.1;omega
theorem zn4{a b:Int×Int}{s t:List (Int×Int)}(ha:Cn (a::s))(e:a.1=b.1)(h:∀x,Mm (b::t) x->Mm (a::s) x):b.2<=a.2:=by
 have h1:=ha.head
 by_cases c:b.2<=a.2
 ·exact c
 ·have h0:=h1.1;obtain⟨r,hr,h3,h4⟩:=h a.2 ⟨b,List.mem_cons_self,by omega,by omega⟩;rcases List.mem_cons.mp hr with rfl|hr
  ·omega
  ·have:=h1.2 r hr;omega
theorem zn5{a:Int×Int}{s t:List (Int×Int)}(ha:Cn (a::s))(h:∀x,Mm (a::s) x->Mm (a::t) x){x:Int}(hx:Mm s x):Mm t x:=by
 rcases mm_cons.mp (h x (mm_cons.mpr (.inr hx))) with q|q
 ·obtain⟨r,hr,h1,h2⟩:=hx;have:=ha.head.2 r hr;omega
 ·exact q
theorem jt:∀{s t:List (Int×Int)},Cn s->Cn t->(∀x,Mm s x↔Mm t x)->s=t
 |[],[],_,_,_=>rfl
 |[],b::t,_,ht,h=>absurd ((h b.1).mpr ⟨b,List.mem_cons_self,Int.le_refl _,ht.head.1⟩) jl
 |a::s,[],hs,_,h=>absurd ((h a.1).mp ⟨a,List.mem_cons_self,Int.le_refl _,hs.head.1⟩) jl
 |a::s,b::t,hs,ht,h=>by
  have e1:a.1=b.1:=Int.le_antisymm (zrg ht hs λx=>(h x).mpr) (zrg hs ht λx=>(h x).mp);have e2:a.2=b.2:=Int.le_antisymm (zn4 ht e1.symm λx=>(h x).mp) (zn4 hs e1 λx=>(h x).mpr);obtain rfl:a=b:=Prod.ext e1 e2;rw[jt hs.tail ht.tail λx=>⟨zn5 hs λx=>(h x).mp,zn5 ht λx=>(h x).mpr⟩]
theorem zvz{s:List (Int×Int)}{lo hi:Int}(h:Cn s)(hm:∀x,Mm s x->lo<=x/\x<hi):∀r∈s,lo<=r.1/\r.1<r.2/\r.2<=hi:=λr hr=>by
 have h1:=h.1 r hr;have h2:=hm r.1 ⟨r,hr,by omega,h1⟩;have h3:=hm (r.2-1) ⟨r,hr,by omega,by omega⟩;omega
def Eg(p s:List (Int×Int)):Prop:=Cn s/\(∀x,Mm s x↔Mm p x)/\∀c∈s,∃q∈p,c.1=q.1
theorem zn6{p s:List (Int×Int)}{r:Int×Int}(g:Eg p s)(hr:r.1<r.2)(h:∀t c,s=t ++ [c]->c.2<r.1):Eg (p ++ [r]) (s ++ [r]):=by
 refine⟨zdz g.1 (zd0 hr) (λa ha b hb=>?_),λx=>?_,λc hc=>?_⟩
 ·cases List.mem_singleton.mp hb;rcases List.eq_nil_or_concat s with rfl |⟨t,c,e1⟩
  ·cases ha
  ·rw[List.concat_eq_append]at e1;have h1:=h t c e1;subst e1;have h3:=g.1.snoc;rcases List.mem_append.mp ha with ha|ha
   ·have:=h3.2.2 a ha;have:=h3.2.1;omega
   ·cases List.mem_singleton.mp ha;omega
 ·rw[qt,qt,g.2.1 x]
 ·rcases List.mem_append.mp hc with hc|hc
  ·obtain⟨q,hq,e⟩:=g.2.2 c hc;exact⟨q,List.mem_append_left _ hq,e⟩
  ·exact⟨c,List.mem_append_right _ hc,rfl⟩
theorem ztz{p s:List (Int×Int)}{c r:Int×Int}(g:Eg p (s ++ [c]))(hr:r.1<r.2)(h1:c.1<=r.1)(h2:r.1<=c.2):Eg (p ++ [r]) (s ++ [(c.1,max c.2 r.2)]):=by
 obtain⟨k1,k2,k3⟩:=g.1.snoc;refine⟨zdz k1 (zd0 (by show c.1<max c.2 r.2;omega)) (λa ha b hb=>?_),λx=>?_,λd hd=>?_⟩
 ·cases List.mem_singleton.mp hb;exact k3 a ha
 ·have q:=g.2.1 x;rw[qt,zae]at q;rw[qt,zae,qt,zae,<-q];constructor
  ·rintro (z|z)
   ·exact .inl (.inl z)
   ·by_cases y:x<c.2
    ·exact .inl (.inr ⟨z.1,y⟩)
    ·have:=z.2;exact .inr ⟨by omega,by simp only[]at this;omega⟩
  ·rintro ((z|z)|z)
   ·exact .inl z
   ·exact .inr ⟨z.1,by show x<max c.2 r.2;omega⟩
   ·exact .inr ⟨by show c.1<=x;omega,by show x<max c.2 r.2;omega⟩
 ·rcases List.mem_append.mp hd with hd|hd
  ·obtain⟨q,hq,e⟩:=g.2.2 d (List.mem_append_left _ hd);exact⟨q,List.mem_append_left _ hq,e⟩
  ·cases List.mem_singleton.mp hd;obtain⟨q,hq,e⟩:=g.2.2 c (List.mem_append_right _ List.mem_cons_self);exact⟨q,List.mem_append_left _ hq,e⟩
def ju(r q:Int×Int):Int×Int:=(max r.1 q.1,min r.2 q.2)
def ltR(r:Int×Int):Bool:=decide (r.1<r.2)
def zd1(a b:List (Int×Int)):List (Int×Int):=(a.flatMap λr=>b.map (ju r)).filter ltR
theorem zt0(r:Int×Int){b:List (Int×Int)}(h:Cn b):Cn ((b.map (ju r)).filter ltR):=by
 refine⟨λx hx=>of_decide_eq_true (List.mem_filter.mp hx).2,List.Pairwise.filter _ ?_⟩;rw[List.pairwise_map];refine h.2.imp λ{x y} hxy=>?_;simp only[ju];omega
theorem zt1(r:Int×Int)(b:List (Int×Int))(x:Int):Mm ((b.map (ju r)).filter ltR) x↔(r.1<=x/\x<r.2)/\Mm b x:=by
 constructor
 ·rintro ⟨q,hq,h1,h2⟩;obtain⟨y,hy,rfl⟩:=List.mem_map.mp (List.mem_filter.mp hq).1;simp only[ju]at h1 h2;exact⟨by omega,y,hy,by omega,by omega⟩
 ·rintro ⟨h,y,hy,h1,h2⟩;refine⟨ju r y,List.mem_filter.mpr ⟨List.mem_map_of_mem hy,decide_eq_true ?_⟩,?_,?_⟩ <;> simp only[ju] <;> omega
theorem zez(r:Int×Int)(a b:List (Int×Int)):zd1 (r::a) b=(b.map (ju r)).filter ltR++zd1 a b:=by
 unfold zd1;rw[List.flatMap_cons,List.filter_append]
theorem zgd(b:List (Int×Int))(x:Int):∀a:List (Int×Int),Mm (zd1 a b) x↔Mm a x/\Mm b x
 |[]=>⟨λh=>absurd h jl,λh=>absurd h.1 jl⟩
 |r::a=>by
  rw[zez,qt,zt1,zgd b x a,mm_cons];constructor
  ·rintro (⟨h1,h2⟩ |⟨h1,h2⟩)
   ·exact⟨.inl h1,h2⟩
   ·exact⟨.inr h1,h2⟩
  ·rintro ⟨h1|h1,h2⟩
   ·exact .inl ⟨h1,h2⟩
   ·exact .inr ⟨h1,h2⟩
theorem zge{b:List (Int×Int)}(hb:Cn b):∀{a:List (Int×Int)},Cn a->Cn (zd1 a b)
 |[],_=>zjk
 |r::a,ha=>by
  rw[zez];refine zdz (zt0 r hb) (zge hb ha.tail) λx hx y hy=>?_;obtain⟨q,hq,rfl⟩:=List.mem_map.mp (List.mem_filter.mp hx).1;have hy2:=(zge hb ha.tail).1 y hy;have h1:=(zgd b y.1 a).mp ⟨y,hy,Int.le_refl _,hy2⟩;obtain⟨⟨z,hz,h3,_⟩,_⟩:=h1;have:=ha.head.2 z hz;simp only[ju];omega
def owL(m:Int):Int->List (Int×Int)->List (Int×Int)
 |f,[]=>[(f,m)]
 |f,r::s=>(f,min r.1 m)::owL m r.2 s
theorem zrh(m:Int):∀{s:List (Int×Int)}{f:Int},Cn s->(∀r∈s,f<=r.1)->∀c∈owL m f s,f<=c.1
 |[],f,_,_,c,hc=>by cases List.mem_singleton.mp hc;exact Int.le_refl _
 |r::s,f,hs,h,c,hc=>by
  rcases List.mem_cons.mp hc with rfl|hc
  ·exact Int.le_refl _
  ·have h1:=zrh m hs.tail (λx hx=>Int.le_of_lt (hs.head.2 x hx)) c hc;have h2:=h r List.mem_cons_self;have:=hs.head.1;omega
theorem zri(m:Int):∀{s:List (Int×Int)}{f:Int},Cn s->(∀r∈s,f<=r.1)->Cn ((owL m f s).filter ltR)
 |[],f,_,_=>⟨λx hx=>of_decide_eq_true (List.mem_filter.mp hx).2,List.Pairwise.filter _ (List.pairwise_singleton _ _)⟩
 |r::s,f,hs,h=>by
  have ih:=zri m hs.tail (λx hx=>Int.le_of_lt (hs.head.2 x hx));refine⟨λx hx=>of_decide_eq_true (List.mem_filter.mp hx).2,?_⟩;have e:(owL m f (r::s)).filter ltR = [(f,min r.1 m)].filter ltR++(owL m r.2 s).filter ltR:=by rw[<-List.filter_append];rfl
  rw[e];refine List.pairwise_append.mpr ⟨List.Pairwise.filter _ (List.pairwise_singleton _ _),ih.2,λa ha b hb=>?_⟩
  cases List.mem_singleton.mp (List.mem_filter.mp ha).1;have h1:=zrh m hs.tail (λx hx=>Int.le_of_lt (hs.head.2 x hx)) b (List.mem_filter.mp hb).1;have:=hs.head.1;show min r.1 m<b.1;omega
theorem zrj{c:Int×Int}{s:List (Int×Int)}{x:Int}:Mm ((c::s).filter ltR) x↔(c.1<=x/\x<c.2)\/Mm (s.filter ltR) x:=by
 rw[List.filter_cons]
 by_cases h:c.1<c.2
 ·rw[show ltR c=true from decide_eq_true h,if_pos rfl,mm_cons]
 ·rw[show ltR c=false from decide_eq_false h,if_neg Bool.false_ne_true];constructor
  ·exact .inr
  ·rintro (z|z)
   ·omega
   ·exact z
theorem zrk(m x:Int):∀{s:List (Int×Int)}{f:Int},Cn s->(∀r∈s,f<=r.1)->(Mm ((owL m f s).filter ltR) x↔(f<=x/\x<m)/\¬ Mm s x)
 |[],f,_,_=>by
  unfold owL;rw[zrj];constructor
  ·rintro (z|z)
   ·exact⟨z,jl⟩
   ·exact absurd z jl
  ·exact λz=>.inl z.1
 |r::s,f,hs,h=>by
  have h1:=h r List.mem_cons_self;have h2:=hs.head;unfold owL;rw[zrj,zrk m x hs.tail (λx hx=>Int.le_of_lt (hs.head.2 x hx)),mm_cons];have out:x<r.2->¬ Mm s x:=λz ⟨q,hq,h3,h4⟩=>by have:=h2.2 q hq;omega
  have h20:=h2.1;constructor
  ·rintro (z|z)
   ·simp only[]at z;refine⟨by omega,?_⟩;rintro (y|y)
    ·omega
    ·exact out (by omega) y
   ·refine⟨by omega,?_⟩;rintro (y|y)
    ·omega
    ·exact z.2 y
  ·rintro ⟨z1,z2⟩
   by_cases y:x<r.1
   ·exact .inl ⟨z1.1,by show x<min r.1 m;omega⟩
   ·by_cases y2:x<r.2
    ·exact absurd (.inl ⟨by omega,y2⟩) z2
    ·exact .inr ⟨by omega,λw=>z2 (.inr w)⟩
theorem zaf(m:Int):∀(s:List (Int×Int)) (f:Int),(owL m f s).length=s.length+1
 |[],_=>rfl
 |r::s,f=>by unfold owL;rw[List.length_cons,zaf m s,List.length_cons]
def cI(f:Int->Bool)(a:Int):Nat->Int
 |0=>0
 |n+1=>cI f a n+if f (a+n)=true then 1 else 0
theorem v7{f g:Int->Bool}{a:Int}:∀{n:Nat},(∀x,a<=x->x<a+n->f x=g x)->cI f a n=cI g a n
 |0,_=>rfl
 |n+1,h=>by
  rw[cI,cI,v7 (n:=n) λx h1 h2=>h x h1 (by omega),h (a+n) (by omega) (by omega)]
theorem zn7(a:Int):∀n:Nat,cI (λ_=>true) a n=n
 |0=>rfl
 |n+1=>by rw[cI,zn7 a n];simp
theorem zkq(a:Int):∀n:Nat,cI (λ_=>false) a n=0
 |0=>rfl
 |n+1=>by rw[cI,zkq a n];simp
theorem zn8(f:Int->Bool)(a:Int):∀n:Nat,cI f a n+cI (λx=>!f x) a n=n
 |0=>rfl
 |n+1=>by
  have:=zn8 f a n;rw[cI,cI]
  cases f (a+n) <;> simp <;> omega
theorem zrl(f g:Int->Bool)(a:Int):∀n:Nat,cI (λx=>f x || g x) a n+cI (λx=>f x && g x) a n=cI f a n+cI g a n
 |0=>rfl
 |n+1=>by
  have:=zrl f g a n;rw[cI,cI,cI,cI]
  cases f (a+n) <;> cases g (a+n) <;> simp <;> omega
theorem zht(f:Int->Bool):∀n:Nat,(((List.range n).map λi:Nat=>f (i:Int)).count true:Int)=cI f 0 n
 |0=>rfl
 |n+1=>by
  have:=zht f n;rw[List.range_succ,List.map_append,List.count_append,cI,<-this];simp only[List.map_cons,List.map_nil,Int.zero_add]
  cases f (n:Int) <;> simp
theorem zt2{s:List (Int×Int)}(c:Cn s)(b:Int):(s.map λr=>if r.1<=b/\b<r.2 then (1:Int) else 0).sum=if yf s b=true then 1 else 0:=by
 induction s with
 |nil=>rfl
 |cons r s ih=>
  have ih:=ih c.tail;rw[List.map_cons,List.sum_cons,ih]
  by_cases h:r.1<=b/\b<r.2
  ·have no:yf s b=false:=by
    cases e:yf s b with
    |false=>rfl
    |true=>
     obtain⟨q,hq,h1,h2⟩:=sil_iff.mp e;have:=c.head.2 q hq;omega
   have yes:yf (r::s) b=true:=sil_iff.mpr ⟨r,List.mem_cons_self,h⟩;rw[if_pos h,no,yes];rfl
  ·have:yf (r::s) b=yf s b:=by
    unfold yf;rw[List.any_cons,decide_eq_false h,Bool.false_or]
   rw[if_neg h,this,Int.zero_add]
theorem zn9(a:Int)(n:Nat)(s:List (Int×Int))(h:∀r∈s,r.1<r.2):(s.map (vt a (a+n+1))).sum=(s.map (vt a (a+n))).sum+(s.map λr=>if r.1<=a+n/\a+n<r.2 then (1:Int) else 0).sum:=by
 induction s with
 |nil=>rfl
 |cons r s ih=>
  have h0:=h r List.mem_cons_self;rw[List.map_cons,List.sum_cons,List.map_cons,List.sum_cons,List.map_cons,List.sum_cons,ih λx hx=>h x (List.mem_cons_of_mem _ hx)];unfold vt
  split <;> omega
theorem zoa{s:List (Int×Int)}(c:Cn s)(a:Int):∀n:Nat,(s.map (vt a (a+n))).sum=cI (yf s) a n
 |0=>by
  have:∀t:List (Int×Int),(t.map (vt a (a+(0:Nat)))).sum=0:=λt=>by
   induction t with
   |nil=>rfl
   |cons r t ih=>rw[List.map_cons,List.sum_cons,ih];unfold vt;omega
  exact this s
 |n+1=>by
  have ih:=zoa c a n;have m:=zn9 a n s c.1;rw[zt2 c]at m;rw[show a+((n+1:Nat):Int)=a+n+1 by omega,m,ih,cI]
theorem zgf{s:List (Int×Int)}(c:Cn s){a b:Int}(h:a<=b):(s.map (vt a b)).sum=cI (yf s) a (b-a).toNat:=by
 have:=zoa c a (b-a).toNat;rw[show a+((b-a).toNat:Int)=b by omega]at this;exact this
theorem zp9{s:List (Int×Int)}{m b:Int}(h:∀r∈s,r.2<=m)(hb:m<=b):(s.map (vt 0 b)).sum=(s.map (vt 0 m)).sum:=by
 refine congrArg List.sum (List.map_congr_left λr hr=>?_);have:=h r hr;unfold vt;omega
theorem zob{s:List (Int×Int)}(c:Cn s)(b:Int):(yf s b=true->∃r∈s,r.1<=b/\b<r.2/\zay s b=r.2)/\(yf s b=false->zay s b=b):=by
 induction s with
 |nil=>exact⟨λh=>(by cases h),λ_=>rfl⟩
 |cons r s ih=>
  have ih:=ih c.tail;rw[zay]
  by_cases h:r.1<=b/\b<r.2
  ·rw[if_pos h];refine⟨λ_=>⟨r,List.mem_cons_self,h.1,h.2,rfl⟩,λe=>?_⟩;rw[sil_iff.mpr ⟨r,List.mem_cons_self,h⟩]at e
   cases e
  ·have e:yf (r::s) b=yf s b:=by
    unfold yf;rw[List.any_cons,decide_eq_false h,Bool.false_or]
   rw[if_neg h,e];refine⟨λz=>?_,ih.2⟩;obtain⟨q,hq,z⟩:=ih.1 z;exact⟨q,List.mem_cons_of_mem _ hq,z⟩
theorem zkr{s:List (Int×Int)}(c:Cn s){r q:Int×Int}(hr:r∈s)(hq:q∈s):r=q\/r.2<q.1\/q.2<r.1:=by
 induction s with
 |nil=>cases hr
 |cons x s ih=>
  rcases List.mem_cons.mp hr with e1|hr1
  ·rcases List.mem_cons.mp hq with e2|hq1
   ·exact .inl (e1.trans e2.symm)
   ·subst e1;exact .inr (.inl (c.head.2 q hq1))
  ·rcases List.mem_cons.mp hq with e2|hq1
   ·subst e2;exact .inr (.inr (c.head.2 r hr1))
   ·exact ih c.tail hr1 hq1
theorem zt3{s:List (Int×Int)}(c:Cn s)(b:Int):b<=zay s b/\yf s (zay s b)=false/\∀x,b<=x->x<zay s b->yf s x=true:=by
 cases e:yf s b with
 |false=>
  rw[(zob c b).2 e];exact⟨Int.le_refl _,e,λx h1 h2=>by omega⟩
 |true=>
  obtain⟨r,hr,h1,h2,h3⟩:=(zob c b).1 e;rw[h3];refine⟨by omega,?_,λx h4 h5=>sil_iff.mpr ⟨r,hr,by omega,h5⟩⟩
  cases e2:yf s r.2 with
  |false=>rfl
  |true=>
   obtain⟨q,hq,h4,h5⟩:=sil_iff.mp e2;have h6:=c.1 r hr;have h7:=c.1 q hq;rcases zkr c hr hq with rfl|z|z
   ·omega
   ·omega
   ·omega
theorem zoc{s:List (Int×Int)}{b:Int}(h:zdt s b=none):∀r∈s,r.2<=b:=by
 induction s with
 |nil=>intro r hr;cases hr
 |cons x s ih=>
  rw[zdt]at h
  split at h
  ·cases h
  ·next z=>
   intro r hr;rcases List.mem_cons.mp hr with rfl|hr
   ·omega
   ·exact ih h r hr
theorem zod{s:List (Int×Int)}(c:Cn s){b v:Int}(h:zdt s b=some v):b<=v/\yf s v=true/\∀x,b<=x->x<v->yf s x=false:=by
 induction s with
 |nil=>cases h
 |cons r s ih=>
  rw[zdt]at h;have hr:=c.head
  by_cases z:b<r.2
  ·rw[if_pos z]at h
   cases h;refine⟨by omega,sil_iff.mpr ⟨r,List.mem_cons_self,by omega,by omega⟩,λx h1 h2=>?_⟩
   cases e:yf (r::s) x with
   |false=>rfl
   |true=>
    obtain⟨q,hq,h3,h4⟩:=sil_iff.mp e;rcases List.mem_cons.mp hq with rfl|hq
    ·omega
    ·have:=hr.2 q hq;omega
  ·rw[if_neg z]at h;obtain⟨h1,h2,h3⟩:=ih c.tail h
   have ex:∀x,b<=x->yf (r::s) x=yf s x:=λx hx=>by
    unfold yf;rw[List.any_cons,decide_eq_false (by omega),Bool.false_or]
   refine⟨h1,by rw[ex v h1];exact h2,λx h4 h5=>by rw[ex x h4];exact h3 x h4 h5⟩
theorem zks{s:List (Int×Int)}{m:Int}(h0:0<=m)(h:∀r∈s,r.2<=m):zax s<=m:=by
 unfold zax
 split
 ·exact h0
 ·next r e=>exact h r (List.mem_of_getLast? e)
theorem zt4{s:List (Int×Int)}{a m:Int}(c:Cn s)(h:∀r∈s,a<=r.1/\r.2<=m)(h0:a<=m+1):2 *(s.length:Int)<=m+1-a:=by
 induction s generalizing a with
 |nil=>simp;omega
 |cons r s ih=>
  have h1:=h r List.mem_cons_self;have h2:=c.head;have:=ih (a:=r.2+1) c.tail (λq hq=>⟨by have:=h2.2 q hq;omega,(h q (List.mem_cons_of_mem _ hq)).2⟩) (by omega);rw[List.length_cons];have:=h2.1;omega
structure SOk(s:List (Int×Int)):Prop where
 le:∀r∈s,0<=r.1/\r.1<r.2/\r.2<=900010
 so:s.Pairwise λa b=>a.2<b.1
 ln:s.length<=13
theorem SOk.cn{s:List (Int×Int)}(h:SOk s):Cn s:=⟨λr hr=>(h.le r hr).2.1,h.so⟩
def kq:DSp:=λws Q=>∃s:List (Int×Int),(ws = [.vw (s.map pD)]\/ws = [.val (.list (s.map pD))])/\s.length<=200/\Q (.val (.tuple (s.map pD)))
theorem zjl(B:Blt mg)(F:Fun K "fitting" "fitting" wg f fd){t_MOST_STRETCHES:Tok}(G_MOST_STRETCHES:mg "MOST_STRETCHES" = some (.int 200 t_MOST_STRETCHES)):FnOk P w K mg base CX0 1 f fd ["stretches"] (z4 K kq):=by
 refine F.dok zjf (λws Q h=>?_) (λcdv A outer s H ws Q E hr h=>?_)
 ·obtain⟨s,rfl|rfl,_⟩:=h <;> rfl
 obtain⟨s,e,hl,q⟩:=h;rcases e with rfl|rfl
 ·refine⟨_,(zf (yr (yc zb7 (DE.dv (ym zc1 rfl B.len PySem.boot_len (zn (zd 0) z7))) (DE.dv (x6 (d:=.int 200) (v:=.int 200) rfl G_MOST_STRETCHES ⟨_,rfl⟩ (λ_=>.int))) (zy _)) (ze w5) z3) (ze (zq (wb qc rfl B.tupleT boot_tuple (zn (zd 0) z7))))),?_⟩;walk_at "ds";rw[List.length_map,if_neg (by omega)];exact q
 ·refine⟨_,(zf (yr (yc zb7 (DE.dv (ym zc1 rfl B.len PySem.boot_len (zn (zd 0) z7))) (DE.dv (x6 (d:=.int 200) (v:=.int 200) rfl G_MOST_STRETCHES ⟨_,rfl⟩ (λ_=>.int))) (zy _)) (ze w5) z3) (ze (zq (wb qc rfl B.tupleT boot_tuple (zn (zd 0) z7))))),?_⟩;walk_at "ds";rw[List.length_map,if_neg (by omega)];exact q
theorem zjm(t:List (Int×Int)):∃S:List (Int×Int),(zc8 (t.map λr=>[r.1,r.2])).map tD=S.map pD/\S.Perm t/\S.Pairwise λa b=>a.1<=b.1:=by
 have mem:∀l∈zc8 (t.map λr=>[r.1,r.2]),∃r:Int×Int,l = [r.1,r.2]:=λl hl=>by
  obtain⟨r,_,e⟩:=List.mem_map.mp ((zac _).mem_iff.mp hl);exact⟨r,e.symm⟩
 refine⟨(zc8 (t.map λr=>[r.1,r.2])).map λl=>(l.getD 0 0,l.getD 1 0),?_,?_,?_⟩
 ·rw[List.map_map];refine List.map_congr_left λl hl=>?_;obtain⟨r,rfl⟩:=mem l hl;rfl
 ·have p:=(zac (t.map λr=>[r.1,r.2])).map λl:List Int=>(l.getD 0 0,l.getD 1 0)
  rw[List.map_map]at p;have e:t.map ((λl:List Int=>(l.getD 0 0,l.getD 1 0)) ∘ λr=>[r.1,r.2])=t:=by
   conv=>rhs;rw[<-List.map_id t]
   exact List.map_congr_left λr _=>rfl
  rw[e]at p;exact p
 ·rw[List.pairwise_map];refine List.Pairwise.imp_of_mem (λ{a b} ha hb h=>?_) (zg8 _);obtain⟨r,rfl⟩:=mem a ha;obtain⟨q,rfl⟩:=mem b hb;show r.1<=q.1
  by_cases c:r.1<=q.1
  ·exact c
  ·exact absurd (List.cons_lt_cons_iff.mpr (.inl (by omega))) h
theorem zgg{n:Nat}:∀{xs:List Nat},(∀x∈xs,x<=n)->xs.sum<=xs.length * n
 |[],_=>Nat.zero_le _
 |x::xs,h=>by
  have h1:=h x List.mem_cons_self;have h2:=zgg λy hy=>h y (List.mem_cons_of_mem _ hy);rw[List.sum_cons,List.length_cons,Nat.add_mul];omega
def ze0:DSp:=λws Q=>∃(a b:List (Int×Int)),ws = [.val (.tuple (a.map pD)),.val (.tuple (b.map pD))]/\SOk a/\SOk b/\∀s,Cn s->s.length<=200->(∀x,Mm s x↔Mm a x\/Mm b x)->Q (.val (.tuple (s.map pD)))
theorem zl7(B:Blt mg)(F:Fun K "either" "either" wt f fd)(C_fitting:Cal P w K mg base 1 "fitting" ["stretches"] (z4 K kq)):FnOk P w K mg base CX0 2 f fd ["one", "other"] (z4 K ze0):=by
 refine F.dok sc_either (λws Q h=>?_) (λcdv A outer s H ws Q E hr h=>?_)
 ·obtain⟨a,b,rfl,_⟩:=h;rfl
 obtain⟨a,b,rfl,oa,ob,q⟩:=h;have la:=oa.ln;have lb:=ob.ln;refine⟨_,(zf (zal (i:=2) sc_either.nd rfl (Or.inl rfl) (vc ye)) (zf (wo PassesOwn.never rfl (v4 (DF.de (zgy zpu rfl B.sorted boot_sorted (zn (DE.dv (yg wj (zd 0) (zd 1))) z7)))) (xv (n:=2) rfl (zv (zp (i:=3) sc_either.nd rfl (Or.inl rfl)) (zv (zp (i:=4) sc_either.nd rfl (Or.inl rfl)) y1))) (ze (yr (DWt.dt (zcy (y0 (zd 2)) (zaj (yc zfh (zd 3) (DE.dv (yz (DE.dv (yz (zd 2) (wn zg) (λ_ _=>rfl))) zg (λ_ _=>rfl))) (zy _))))) (ze (zfp 2 (xj (zk (yz (DE.dv (yz (zd 2) (wn zg) (λ_ _=>rfl))) zg (λ_ _=>rfl)) (zk (ym (zc2 rfl) rfl B.max boot_max (zn (DE.dv (yz (DE.dv (yz (zd 2) (wn zg) (λ_ _=>rfl))) zg (λ_ _=>rfl))) (zn (zd 4) z7))) ye))) (wn zg))) (ze (wy 2 (xj (zk (ya 3) (zk (ya 4) ye)))))))) (ze (zq (zj C_fitting hr rfl (zm 2 zl)))))),?_⟩;walk_at "ds";refine⟨by rw[List.length_map,List.length_map];omega,by rw[List.length_append,List.length_map,List.length_map];omega,.inr ⟨(a++b).map λr=>[r.1,r.2],by rw[<-List.map_append,List.map_map];rfl,λt ht=>?_,?_⟩⟩
 ·obtain⟨r,_,rfl⟩:=List.mem_map.mp ht;exact List.cons_ne_nil _ _
 obtain⟨S,e,pS,so⟩:=zjm (a++b);have lS:S.length<=26:=by rw[pS.length_eq,List.length_append];omega
 have hS:∀r∈S,r.1<r.2:=λr hr=>by
  rcases List.mem_append.mp (pS.mem_iff.mp hr) with z|z
  ·exact(oa.le r z).2.1
  ·exact(ob.le r z).2.1
 rw[e];refine xx (λds σ=>∃(p z st:List (Int×Int)) (u v:Option W),ds=z.map pD/\p++z=S/\Eg p st/\st.length<=p.length/\σ = [some (.val (.tuple (a.map pD))),some (.val (.tuple (b.map pD))),some (.own (.lst (st.map pD))),u,v]) ?_ ?_ ⟨[],S,[],none,none,rfl,rfl,⟨zjk,λ_=>Iff.rfl,λ_ h=>(by cases h)⟩,Nat.le_refl _,rfl⟩
 ·rintro d ds σ N ⟨p,z,st,u,v,e,ez,g,hl,rfl⟩ k
  cases z with
  |nil=>cases e
  |cons r z=>
   cases e;have hr0:=hS r (by rw[<-ez];simp);have hp:p.length<26:=by rw[<-ez]at lS;simp at lS;omega
   have ap:(p ++ [r])++z=S:=by rw[List.append_assoc];exact ez
   rcases List.eq_nil_or_concat st with rfl |⟨t,c,rfl⟩
   ·simp only[pD];walk_at "ds";refine⟨by decide,?_⟩;exact k _ ⟨p ++ [r],z,[r],_,_,rfl,ap,zn6 g hr0 (λt c e=>by cases t <;> cases e),by simp,rfl⟩
   ·rw[List.concat_eq_append]at g hl ⊢;have el:=atI_end (t.map pD) (pD c)
    have hc:c.1<=r.1:=by
     obtain⟨y,hy,e1⟩:=g.2.2 c (List.mem_append_right _ List.mem_cons_self);rw[<-ez,List.pairwise_append]at so;have:=so.2.2 y hy r List.mem_cons_self;omega
    simp only[List.map_append,List.map_cons,List.map_nil];simp only[pD]at el ⊢;walk_at "ds";rw[if_pos (by simp)];refine⟨_,el,?_⟩;walk_at "ds";refine⟨_,we _ _ _,?_⟩;walk_at "ds"
    by_cases c1:r.1<=c.2
    ·rw[if_pos c1];refine⟨_,el,?_⟩;walk_at "ds";refine⟨_,x5 _ _,_,el,?_⟩;walk_at "ds";refine⟨_,we _ _ _,?_⟩;walk_at "ds";refine⟨_,zdq _ _,?_⟩;rw[zf6];exact k _ ⟨p ++ [r],z,t ++ [(c.1,max c.2 r.2)],_,_,rfl,ap,ztz g hr0 hc c1,(by simp at hl ⊢;omega),(by rw[List.map_append];rfl)⟩
    ·rw[if_neg c1];refine⟨by simp at hl ⊢;omega,k _ ⟨p ++ [r],z,(t ++ [c]) ++ [r],_,_,rfl,ap,zn6 g hr0 (λt' c' e=>?_),(by simp at hl ⊢;omega),(by rw[List.map_append,List.map_append];rfl)⟩⟩;have:=(List.append_inj' e rfl).2
     cases this;omega
 ·rintro σ ⟨p,z,st,u,v,e,ez,g,hl,rfl⟩
  cases z with
  |cons r z=>cases e
  |nil=>
   rw[List.append_nil]at ez;subst ez;walk_at "ds";refine⟨st,.inl rfl,by omega,q st g.1 (by omega) λx=>?_⟩;rw[g.2.1 x,<-qt];constructor
   ·rintro ⟨r,hr,h⟩;exact⟨r,pS.mem_iff.mp hr,h⟩
   ·rintro ⟨r,hr,h⟩;exact⟨r,pS.mem_iff.mpr hr,h⟩
theorem zrm(s:List (Int×Int)):s.filterMap (λr=>if r.1<r.2 then some (pD r) else none)=(s.filter ltR).map pD:=by
 induction s with
 |nil=>rfl
 |cons r s ih=>
  rw[List.filterMap_cons,List.filter_cons,ih];unfold ltR
  by_cases c:r.1<r.2
  ·rw[if_pos c,decide_eq_true c,if_pos rfl];rfl
  ·rw[if_neg c,decide_eq_false c,if_neg Bool.false_ne_true]
theorem ze1{α:Type}{f:D->(Option D->Prop)->Prop}(enc F:α->D):∀{as:List α}{acc:List D}{Q:List D->Prop},(∀a∈as,∀k:Option D->Prop,k (some (F a))->f (enc a) k)->acc.length+as.length<=sizeLine->Q (acc++as.map F)->zi9 f (as.map enc) acc Q
 |[],acc,Q,_,_,q=>by
  rw[List.map_nil,List.append_nil]at q;exact q
 |a::as,acc,Q,h,hl,q=>by
  rw[List.map_cons,zi9];refine h a List.mem_cons_self _ ?_;rw[List.length_cons]at hl;exact⟨by omega,ze1 enc F (λb hb=>h b (List.mem_cons_of_mem _ hb)) (by rw[List.length_append,List.length_singleton];omega) (by rw[List.append_assoc];exact q)⟩
theorem zkt{α:Type}{g:DTG}{tt:DTT}{ti2:DTF}{is2:List Nat}{g2:DTG}{tt2:DTT}{te:DTE}{σ0:DSt}(enc:α->D)(F:α->List D)(n B:Nat)(hF:∀a,(F a).length<=n)
  (h:∀(a:α) (acc:List D) (R:List D->Prop),acc.length+n<=B->R (acc++F a)->g (enc a) σ0 λσ1=>tt σ1 λb=>if b=true then ti2 σ1 λes=>zi9 (lcF g2 tt2 te (qb is2 0 σ1)) es acc R else R acc) :
  ∀(as:List α) (acc:List D) (Q:List D->Prop),acc.length+as.length * n<=B->Q (acc++as.flatMap F)->zhh g tt ti2 is2 g2 tt2 te σ0 (as.map enc) acc Q
 |[],acc,Q,_,q=>by
  rw[List.flatMap_nil,List.append_nil]at q;exact q
 |a::as,acc,Q,hl,q=>by
  rw[List.length_cons,Nat.add_mul]at hl;rw[List.map_cons,zhh];refine h a acc _ (by omega) (zkt enc F n B hF h as _ Q ?_ ?_)
  ·have:=hF a;rw[List.length_append];omega
  ·rw[List.append_assoc];exact q
def zku:DSp:=λws Q=>∃(a b:List (Int×Int)),ws = [.val (.tuple (a.map pD)),.val (.tuple (b.map pD))]/\SOk a/\SOk b/\∀s,Cn s->s.length<=200->(∀x,Mm s x↔Mm a x/\Mm b x)->Q (.val (.tuple (s.map pD)))
theorem zqa(B:Blt mg)(F:Fun K "both" "both" kl f fd)(C_fitting:Cal P w K mg base 1 "fitting" ["stretches"] (z4 K kq)):FnOk P w K mg base CX0 2 f fd ["one", "other"] (z4 K zku):=by
 refine F.dok sc_both (λws Q h=>?_) (λcdv A outer s H ws Q E hr h=>?_)
 ·obtain⟨a,b,rfl,_⟩:=h;rfl
 obtain⟨a,b,rfl,oa,ob,q⟩:=h;have la:=oa.ln;have lb:=ob.ln;refine⟨_,(zf (zl2 (i:=2) sc_both.nd rfl (Or.inl rfl) rfl (N':=["a", "b", "c", "d", "other"]) (capt:=["other"]) (k:=4) (js:=[1]) ⟨rfl,by decide,rfl,by decide,(.cons rfl .nil),rfl,(.cons rfl (Or.inl rfl) rfl (Or.inl rfl) .nil),rfl,by decide⟩ (x8 (zd 0)) (λ_ _ _ _=>(xv (n:=2) rfl (zv (zp (i:=0) (show List.Nodup (["a", "b", "c", "d", "other"]:List Str) by decide +kernel) rfl (Or.inl rfl) (Or.inr rfl)) (zv (zp (i:=1) (show List.Nodup (["a", "b", "c", "d", "other"]:List Str) by decide +kernel) rfl (Or.inl rfl) (Or.inr rfl)) y1)))) (λ_ _ _ _=>wc) (λ_ _ _ _=>(v4 (ya 4))) (λ_ _ _ _=>(xv (n:=2) rfl (zv (zp (i:=2) (show List.Nodup (["a", "b", "c", "d", "other"]:List Str) by decide +kernel) rfl (Or.inl rfl) (Or.inr rfl)) (zv (zp (i:=3) (show List.Nodup (["a", "b", "c", "d", "other"]:List Str) by decide +kernel) rfl (Or.inl rfl) (Or.inr rfl)) y1)))) (λ_ _ _ _=>wc) (λ_ _ _ _=>(xj (zk (ym (zc2 rfl) rfl B.max boot_max (zn (zd 0) (zn (zd 2) z7))) (zk (ym (zj3 rfl) rfl B.min boot_min (zn (zd 1) (zn (zd 3) z7))) ye))))) (ze (zq (zj C_fitting hr rfl (yb (DF.de (v5 rfl (N':=["first", "last"]) (capt:=[]) (k:=2) (js:=[]) ⟨rfl,by decide,rfl,by decide,.nil,rfl,.nil,rfl,by decide⟩ (x8 (zd 2)) (λ_ _ _ _=>(xv (n:=2) rfl (zv (zp (i:=0) (show List.Nodup (["first", "last"]:List Str) by decide +kernel) rfl (Or.inl rfl) (Or.inr rfl)) (zv (zp (i:=1) (show List.Nodup (["first", "last"]:List Str) by decide +kernel) rfl (Or.inl rfl) (Or.inr rfl)) y1)))) (λ_ _ _ _=>(jn (yc zfg (zd 0) (zd 1) (zy _)))) (λ_ _ _ _=>(xj (zk (ya 0) (zk (ya 1) ye)))))) zl))))),?_⟩;walk_at "ds";refine zkt pD (λr=>b.map λy=>pD (ju r y)) 200 50000 (λr=>by rw[List.length_map];omega) (λr acc R hl hR=>?_) a [] _ (by rw[List.length_nil];omega) ?_
 ·simp only[pD];walk_at "ds";refine ze1 pD (λy=>pD (ju r y)) (λy _ K hk=>?_) (by rw[sizeLine_eq];omega) hR;simp only[pD,ju]at hk ⊢;walk_at "ds";exact hk
 ·have e:a.flatMap (λr=>b.map λy=>pD (ju r y))=(a.flatMap λr=>b.map (ju r)).map pD:=by
   rw[List.map_flatMap];refine congrArg (λf=>List.flatMap f a) (funext λr=>?_);rw[List.map_map];rfl
  have l1:(a.flatMap λr=>b.map (ju r)).length<=169:=by
   rw[List.length_flatMap];refine Nat.le_trans (zgg (n:=13) λx hx=>?_) ?_
   ·obtain⟨r,_,rfl⟩:=List.mem_map.mp hx;rw[List.length_map];exact lb
   ·rw[List.length_map];omega
  rw[List.nil_append,e,List.length_map];refine⟨by omega,ki pD (λr=>if r.1<r.2 then some (pD r) else none) (λr hr k hk=>?_) ?_⟩
  ·simp only[pD]at hk ⊢;walk_at "ds"
   by_cases c:r.1<r.2
   ·rw[if_pos c];rw[if_pos c]at hk;exact hk
   ·rw[if_neg c];rw[if_neg c]at hk;exact hk
  ·rw[zrm];have l2:=List.length_filter_le ltR (a.flatMap λr=>b.map (ju r));exact⟨_,.inr rfl,by omega,q _ (zge ob.cn oa.cn) (show(zd1 a b).length<=200 by unfold zd1;omega) λx=>zgd b x a⟩
def za1:DSp:=λws Q=>∃(a:List (Int×Int)) (m:Int),ws = [.val (.tuple (a.map pD)),.val (.int m)]/\SOk a/\∀s,Cn s->s.length<=200->(∀x,Mm s x↔(0<=x/\x<m)/\¬ Mm a x)->Q (.val (.tuple (s.map pD)))
theorem zgh(B:Blt mg)(F:Fun K "other_way" "other_way" xo f fd)(C_fitting:Cal P w K mg base 1 "fitting" ["stretches"] (z4 K kq)):FnOk P w K mg base CX0 2 f fd ["story", "beat"] (z4 K za1):=by
 refine F.dok sc_other_way (λws Q h=>?_) (λcdv A outer s H ws Q E hr h=>?_)
 ·obtain⟨a,m,rfl,_⟩:=h;rfl
 obtain⟨a,m,rfl,oa,q⟩:=h;have la:=oa.ln;refine⟨_,(zf (zal (i:=2) sc_other_way.nd rfl (Or.inl rfl) (vc ye)) (zf (xi (i:=3) sc_other_way.nd rfl (Or.inl rfl) zg) (zf (wo PassesOwn.never rfl (v4 (ya 0)) (xv (n:=2) rfl (zv (zp (i:=4) sc_other_way.nd rfl (Or.inl rfl)) (zv (zp (i:=5) sc_other_way.nd rfl (Or.inl rfl)) y1))) (zf (wy 2 (xj (zk (ya 3) (zk (ym (zj3 rfl) rfl B.min boot_min (zn (zd 4) (zn (zd 1) z7))) ye)))) (ze (xi (i:=3) sc_other_way.nd rfl (Or.inl rfl) (ya 5))))) (zf (wy 2 (xj (zk (ya 3) (zk (ya 1) ye)))) (ze (zq (zj C_fitting hr rfl (yb (DF.de (v5 rfl (N':=["first", "last"]) (capt:=[]) (k:=2) (js:=[]) ⟨rfl,by decide,rfl,by decide,.nil,rfl,.nil,rfl,by decide⟩ (x8 (zd 2)) (λ_ _ _ _=>(xv (n:=2) rfl (zv (zp (i:=0) (show List.Nodup (["first", "last"]:List Str) by decide +kernel) rfl (Or.inl rfl) (Or.inr rfl)) (zv (zp (i:=1) (show List.Nodup (["first", "last"]:List Str) by decide +kernel) rfl (Or.inl rfl) (Or.inr rfl)) y1)))) (λ_ _ _ _=>(jn (yc zfg (zd 0) (zd 1) (zy _)))) (λ_ _ _ _=>(xj (zk (ya 0) (zk (ya 1) ye)))))) zl)))))))),?_⟩;walk_at "ds";refine xx (λds σ=>∃(z acc:List (Int×Int)) (f:Int) (u v:Option W),ds=z.map pD/\acc++owL m f z=owL m 0 a/\σ = [some (.val (.tuple (a.map pD))),some (.val (.int m)),some (.own (.lst (acc.map pD))),some (.val (.int f)),u,v]) ?_ ?_ ⟨a,[],0,none,none,rfl,rfl,rfl⟩
 ·rintro d ds σ N ⟨z,acc,f,u,v,e,ez,rfl⟩ k;have l1:=congrArg List.length ez;rw[List.length_append,zaf,zaf]at l1
  cases z with
  |nil=>cases e
  |cons r z=>
   cases e;simp only[pD];walk_at "ds";rw[List.length_map];rw[List.length_cons]at l1;refine⟨by omega,k _ ⟨z,acc ++ [(f,min r.1 m)],r.2,_,_,rfl,(by rw[List.append_assoc];exact ez),(by rw[List.map_append];rfl)⟩⟩
 ·rintro σ ⟨z,acc,f,u,v,e,ez,rfl⟩;have l1:=congrArg List.length ez;rw[List.length_append,zaf,zaf]at l1
  cases z with
  |cons r z=>cases e
  |nil=>
   rw[List.length_nil]at l1;walk_at "ds";rw[List.length_map];refine⟨by omega,?_⟩;have e:acc.map pD ++ [PyData.tuple [.int f,.int m]]=(owL m 0 a).map pD:=by rw[<-ez,List.map_append];rfl
   walk_at "ds";rw[e,List.length_map,zaf];refine⟨by omega,ki pD (λr=>if r.1<r.2 then some (pD r) else none) (λr hr k hk=>?_) ?_⟩
   ·simp only[pD]at hk ⊢;walk_at "ds"
    by_cases c:r.1<r.2
    ·rw[if_pos c];rw[if_pos c]at hk;exact hk
    ·rw[if_neg c];rw[if_neg c]at hk;exact hk
   ·rw[zrm];have l2:=List.length_filter_le ltR (owL m 0 a);rw[zaf]at l2;have ge:∀r∈a,0<=r.1:=λr hr=>(oa.le r hr).1;exact⟨_,.inr rfl,by omega,q _ (zri m oa.cn ge) (by omega) λx=>zrk m x oa.cn ge⟩
def mvR(by_:Int)(r:Int×Int):Option (Int×Int):=if 0<r.2+by_ then some (max 0 (r.1+by_),r.2+by_) else none
def mvL(by_:Int)(s:List (Int×Int)):List (Int×Int):=s.filterMap (mvR by_)
theorem zqb(by_:Int)(s:List (Int×Int))(c:Int×Int):mvL by_ (s ++ [c])=mvL by_ s++(match mvR by_ c with|some r=>[r]|none=>[]):=by
 unfold mvL;rw[List.filterMap_append,List.filterMap_cons]
 cases mvR by_ c <;> rfl
theorem zqc{by_:Int}{s:List (Int×Int)}(h:∀r∈s,r.2+by_<=0):mvL by_ s = []:=by
 unfold mvL;rw[List.filterMap_eq_nil_iff];intro r hr;unfold mvR;rw[if_neg (by have:=h r hr;omega)]
theorem zqd{by_:Int}{s:List (Int×Int)}(o:Cn s):1000000<zax (mvL by_ s)↔∃r∈s,1000000<r.2+by_:=by
 rcases List.eq_nil_or_concat s with rfl |⟨t,c,e⟩
 ·constructor
  ·intro h;exact absurd h (show ¬ (1000000:Int)<0 by decide)
  ·rintro ⟨r,hr,_⟩
   cases hr
 ·rw[List.concat_eq_append]at e;subst e;have h:=o.snoc
  have le:∀r∈t ++ [c],r.2<=c.2:=λr hr=>by
   rcases List.mem_append.mp hr with hr|hr
   ·have:=h.2.2 r hr;have:=h.2.1;omega
   ·cases List.mem_singleton.mp hr;exact Int.le_refl _
  by_cases p:0<c.2+by_
  ·have e:mvR by_ c=some (max 0 (c.1+by_),c.2+by_):=if_pos p;rw[zqb,e];simp only[zax,List.getLast?_append,List.getLast?_singleton,Option.some_or];constructor
   ·exact λz=>⟨c,List.mem_append_right _ List.mem_cons_self,z⟩
   ·rintro ⟨r,hr,z⟩;have:=le r hr;omega
  ·rw[zqc λr hr=>by have:=le r hr;omega];constructor
   ·intro h;exact absurd h (by decide)
   ·rintro ⟨r,hr,z⟩;have:=le r hr;omega
def zb1:DSp:=λws Q=>∃(s:List (Int×Int)) (b:Int),ws = [.val (.tuple (s.map pD)),.val (.int b)]/\Cn s/\s.length<=200/\(¬ ∃r∈s,1000000<r.2+b)/\Q (.val (.tuple ((mvL b s).map pD)))
theorem zhu(B:Blt mg)(F:Fun K "later_by" "later_by" x3 f fd){t_LAST_BEAT:Tok}(G_LAST_BEAT:mg "LAST_BEAT" = some (.int 1000000 t_LAST_BEAT))(C_healed_at:Cal P w K mg base 1 "healed_at" ["story"] (z4 K ko)):FnOk P w K mg base CX0 2 f fd ["story", "by"] (z4 K zb1):=by
 refine F.dok sc_later_by (λws Q h=>?_) (λcdv A outer s H ws Q E hr h=>?_)
 ·obtain⟨s,b,rfl,_⟩:=h;rfl
 obtain⟨s,b,rfl,o,ln,q1,q2⟩:=h;refine⟨_,(zf (zg4 (i:=2) sc_later_by.nd rfl (Or.inl rfl) rfl (N':=["first", "last", "by"]) (capt:=["by"]) (k:=2) (js:=[1]) ⟨rfl,by decide,rfl,by decide,(.cons rfl .nil),rfl,(.cons rfl (Or.inl rfl) rfl (Or.inl rfl) .nil),rfl,by decide⟩ (x8 (zd 0)) (λ_ _ _ _=>(xv (n:=2) rfl (zv (zp (i:=0) (show List.Nodup (["first", "last", "by"]:List Str) by decide +kernel) rfl (Or.inl rfl) (Or.inr rfl)) (zv (zp (i:=1) (show List.Nodup (["first", "last", "by"]:List Str) by decide +kernel) rfl (Or.inl rfl) (Or.inr rfl)) y1)))) (λ_ _ _ _=>(jn (yc zb7 (DE.dv (yg wj (zd 1) (zd 2))) (DE.dv zg) (zy _)))) (λ_ _ _ _=>(xj (zk (ym (zc2 rfl) rfl B.max boot_max (zn (DE.dv zg) (zn (DE.dv (yg wj (zd 0) (zd 2))) z7) vx)) (zk (yg wj (zd 1) (zd 2)) ye))))) (zf (yr (yc zb7 (DE.dv (zj C_healed_at hr rfl (zm 2 zl))) (DE.dv (x6 (d:=.int 1000000) (v:=.int 1000000) rfl G_LAST_BEAT ⟨_,rfl⟩ (λ_=>.int))) (zy _)) (ze w5) z3) (ze (zq (wb qc rfl B.tupleT boot_tuple (zn (zd 2) z7)))))),?_⟩;walk_at "ds";rw[List.length_map];refine⟨by omega,ki pD (λr=>(mvR b r).map pD) (λr hr k hk=>?_) ?_⟩
 ·unfold mvR at hk;simp only[pD];walk_at "ds"
  by_cases c:0<r.2+b
  ·rw[if_pos c];rw[if_pos c]at hk;exact hk
  ·rw[if_neg c];rw[if_neg c]at hk;exact hk
 ·have e:s.filterMap (λr=>(mvR b r).map pD)=(mvL b s).map pD:=by unfold mvL;rw[List.map_filterMap]
  rw[e];walk_at "ds";refine⟨_,.inr rfl,?_⟩;walk_at "ds";rw[if_neg λz=>q1 ((zqd o).mp z)];exact q2
end
section
variable {P:Program}{w:World}{K:PySem.W.Frag}{mg:Str->Option Value}{base:Heap}{f:Addr}{fd:FuncData}
def zb2:List Int->Bool
 |[a,b]=>decide (0<=a) && decide (a<b) && decide (b<=1000000)
 |_=>false
def jb:DSp:=λws Q=>∃t:List Int,ws = [.val (tD t)]/\Q (.val (.bool (zb2 t)))
theorem zch(B:Blt mg)(F:Fun K "stretch_good" "stretch_good" yu f fd){t_LAST_BEAT:Tok}(G_LAST_BEAT:mg "LAST_BEAT" = some (.int 1000000 t_LAST_BEAT))(C_is_whole:Cal P w K mg base 1 "is_whole" ["thing"] (z4 K jh)):FnOk P w K mg base CX0 2 f fd ["thing"] (z4 K jb):=by
 refine F.dok zcb (λws Q h=>?_) (λcdv A outer s H ws Q E hr h=>?_)
 ·obtain⟨t,rfl,_⟩:=h;rfl
 obtain⟨t,rfl,q⟩:=h;refine⟨_,(zf (yr (DWt.dt (w4 (xk (y0 (DE.dv (zbf (n := "tuple") zcj rfl B.isinstance boot_isinstance (zd 0) rfl B.tupleT boot_tuple)))) (wk (yc (j6 hr) (DE.dv (ym zc1 rfl B.len PySem.boot_len (zn (zd 0) z7))) (DE.dv zg) (zy _))))) (ze (zq xa)) z3) (zf (yr (DWt.dt (w4 (xk (y0 (DE.dv (zj C_is_whole hr rfl (yb (yz (zd 0) zg (λ_ _=>rfl)) zl))))) (wk (xk (y0 (DE.dv (zj C_is_whole hr rfl (yb (yz (zd 0) zg (λ_ _=>rfl)) zl)))))))) (ze (zq xa)) z3) (ze (zq (zlw zfh zfg zfh (DE.dv zg) (DE.dv (yz (zd 0) zg (λ_ _=>rfl))) (DE.dv (yz (zd 0) zg (λ_ _=>rfl))) (DE.dv (x6 (d:=.int 1000000) (v:=.int 1000000) rfl G_LAST_BEAT ⟨_,rfl⟩ (λ_=>.int)))))))),?_⟩;unfold tD
 match t,q with
 |[],q=>walk_at "ds";exact q
 |[a],q=>walk_at "ds";exact q
 |a::b::c::r,q=>
  walk_at "ds";rw[if_pos (by intro z;rw[List.length_map]at z;omega)];exact q
 |[a,b],q=>
  walk_at "ds";refine⟨_,x5 _ _,?_⟩;refine⟨.int a,rfl,?_⟩;simp only[whB];walk_at "ds";refine⟨_,we _ _ _,.int b,rfl,?_⟩;simp only[whB];walk_at "ds";refine⟨_,x5 _ _,?_⟩
  replace q:Q (Ret.val (PyData.bool (decide (0<=a) && decide (a<b) && decide (b<=1000000)))):=q
  walk_at "ds"
  by_cases c1:0<=a
  ·rw[if_pos c1];refine⟨_,we _ _ _,?_⟩;walk_at "ds";rw[decide_eq_true c1]at q
   by_cases c2:a<b
   ·rw[if_pos c2];rw[decide_eq_true c2]at q;exact q
   ·rw[if_neg c2];rw[decide_eq_false c2]at q;exact q
  ·rw[if_neg c1];rw[decide_eq_false c1]at q;exact q
def za2:Int->List (List Int)->Bool
 |_,[]=>true
 |h,t::ts=>zb2 t && !decide (t.getD 0 0<=h) && za2 (t.getD 1 0) ts
theorem zl8{t:List Int}(h:zb2 t=true):∃a b,t = [a,b]/\0<=a/\a<b/\b<=1000000:=by
 match t,h with
 |[a,b],h=>
  simp only[zb2,Bool.and_eq_true,decide_eq_true_eq]at h;exact⟨a,b,rfl,h.1.1,h.1.2,h.2⟩
def j0:DSp:=λws Q=>∃ts:List (List Int),ws = [.val (.tuple (ts.map tD))]/\Q (.val (.bool (decide (ts.length<=200) && za2 (-1) ts)))
theorem zec(B:Blt mg)(F:Fun K "story_good" "story_good" xb f fd){t_MOST_STRETCHES:Tok}(G_MOST_STRETCHES:mg "MOST_STRETCHES" = some (.int 200 t_MOST_STRETCHES))(C_stretch_good:Cal P w K mg base 2 "stretch_good" ["thing"] (z4 K jb)):FnOk P w K mg base CX0 3 f fd ["thing"] (z4 K j0):=by
 refine F.dok sc_story_good (λws Q h=>?_) (λcdv A outer s H ws Q E hr h=>?_)
 ·obtain⟨t,rfl,_⟩:=h;rfl
 obtain⟨ts,rfl,q⟩:=h;refine⟨_,(zf (yr (DWt.dt (w4 (xk (y0 (DE.dv (zbf (n := "tuple") zcj rfl B.isinstance boot_isinstance (zd 0) rfl B.tupleT boot_tuple)))) (wk (yc zb7 (DE.dv (ym zc1 rfl B.len PySem.boot_len (zn (zd 0) z7))) (DE.dv (x6 (d:=.int 200) (v:=.int 200) rfl G_MOST_STRETCHES ⟨_,rfl⟩ (λ_=>.int))) (zy _))))) (ze (zq xa)) z3) (zf (xi (i:=1) sc_story_good.nd rfl (Or.inl rfl) (wn zg)) (zf (wo PassesOwn.never rfl (v4 (ya 0)) (zp (i:=2) sc_story_good.nd rfl (Or.inl rfl)) (zf (yr (DWt.dt (w4 (xk (y0 (DE.dv (zj C_stretch_good hr rfl (zm 2 zl))))) (wk (yc zfh (DE.dv (yz (zd 2) zg (λ_ _=>rfl))) (zd 1) (zy _))))) (ze (zq xa)) z3) (ze (xi (i:=1) sc_story_good.nd rfl (Or.inl rfl) (yz (zd 2) zg (λ_ _=>rfl)))))) (ze (zq xa))))),?_⟩;walk_at "ds";rw[List.length_map]
 by_cases c:(200:Int)<ts.length
 ·rw[if_pos c];rw[decide_eq_false (by omega)]at q;exact q
 rw[if_neg c];rw[decide_eq_true (by omega),Bool.true_and]at q;refine xx (λds σ=>∃(us:List (List Int)) (h:Int) (u:Option W),ds=us.map tD/\za2 (-1) ts=za2 h us/\σ = [some (.val (.tuple (ts.map tD))),some (.val (.int h)),u]) ?_ ?_ ⟨ts,-1,none,rfl,rfl,rfl⟩
 ·rintro d ds σ N ⟨us,h,u,e,h2,rfl⟩ k
  cases us with
  |nil=>cases e
  |cons t us=>
   cases e;rw[za2]at h2;walk_at "ds";refine⟨t,rfl,?_⟩
   cases c1:zb2 t with
   |false=>
    rw[h2,c1]at q;exact q
   |true=>
    obtain⟨a,b,rfl,_⟩:=zl8 c1;rw[c1]at h2
    replace h2:za2 (-1) ts=(true && !decide (a<=h) && za2 b us):=h2
    simp only[tD,List.map_cons,List.map_nil];walk_at "ds";refine⟨_,x5 _ _,?_⟩;walk_at "ds"
    by_cases c2:a<=h
    ·rw[if_pos c2];rw[h2,decide_eq_true c2]at q;exact q
    ·rw[if_neg c2];refine⟨_,we _ _ _,k _ ⟨us,b,_,rfl,?_,rfl⟩⟩;rw[h2,decide_eq_false c2];rfl
 ·rintro σ ⟨us,h,u,e,h2,rfl⟩
  cases us with
  |cons t us=>cases e
  |nil=>
   walk_at "ds";rw[h2]at q;exact q
abbrev SI:Str:=Str.ofString "silent"
abbrev SO:Str:=Str.ofString "sound"
def wdB:D->Bool
 |.str x=>decide (x=SI) || decide (x=SO)
 |_=>false
def lkB:D->Bool
 |.tuple [a,b]=>inB 0 999999 a && wdB b
 |_=>false
def zv0(d:D):Prop:=∀(a:Int) (b:D),d=.tuple [.int a,b]->(∃x:Str,b=.str x/\(x.cps.all (· < 128))=true)\/b=.none\/∃j:Int,b=.int j/\Lay (.int j)
theorem zqe:Lay PyData.none:=Sh.none.lay (by decide)
theorem zt5{x:Str}(h:(x.cps.all (· < 128))=true):Lay (.str x):=by
 unfold Lay SeqAt.shaped;have:PyData.strOk x=true:=by
  unfold PyData.strOk;rw[Array.all_eq_true']at h ⊢;intro c hc;have:=h c hc;simp at this ⊢;omega
 simp[PyData.canLay0,PyData.depth,this]
theorem zjn:Lay (PyData.tuple [PyData.str (Str.ofString "silent"),PyData.str (Str.ofString "sound")]):=by unfold Lay;decide +kernel
theorem zqf(x:Str):inD (.str x) [PyData.str (Str.ofString "silent"),PyData.str (Str.ofString "sound")]=wdB (.str x):=by
 simp only[inD,PyData.eqv,wdB,List.any_cons,List.any_nil,Bool.or_false];rw[Bool.eq_iff_iff];simp only[Bool.or_eq_true,beq_iff_eq,decide_eq_true_eq];exact⟨λh=>h.imp Eq.symm Eq.symm,λh=>h.imp Eq.symm Eq.symm⟩
theorem zqg(j:Int):inD (.int j) [PyData.str (Str.ofString "silent"),PyData.str (Str.ofString "sound")]=false:=by
 simp[inD,PyData.eqv]
theorem zqh:inD .none [PyData.str (Str.ofString "silent"),PyData.str (Str.ofString "sound")]=false:=by
 simp[inD,PyData.eqv]
def za3:DSp:=λws Q=>∃d:D,ws = [.val d]/\zv0 d/\Q (.val (.bool (lkB d)))
theorem zgi(B:Blt mg)(F:Fun K "look_good" "look_good" xq f fd){t_LAST_BEAT:Tok}(G_LAST_BEAT:mg "LAST_BEAT" = some (.int 1000000 t_LAST_BEAT)){t_SILENT:Tok}(G_SILENT:mg "SILENT" = some (.str "silent" t_SILENT)){t_SOUND:Tok}(G_SOUND:mg "SOUND" = some (.str "sound" t_SOUND))(C_whole_in:Cal P w K mg base 2 "whole_in" ["thing", "least", "most"] (z4 K qg)):FnOk P w K mg base CX0 3 f fd ["thing"] (z4 K za3):=by
 refine F.dok zf2 (λws Q h=>?_) (λcdv A outer s H ws Q E hr h=>?_)
 ·obtain⟨d,rfl,_⟩:=h;rfl
 obtain⟨d,rfl,ok,q⟩:=h;refine⟨_,(zf (yr (DWt.dt (w4 (xk (y0 (DE.dv (zbf (n := "tuple") zcj rfl B.isinstance boot_isinstance (zd 0) rfl B.tupleT boot_tuple)))) (wk (yc (j6 hr) (DE.dv (ym zc1 rfl B.len PySem.boot_len (zn (zd 0) z7))) (DE.dv zg) (zy _))))) (ze (zq xa)) z3) (ze (zq (j5 (zj C_whole_in hr rfl (yb (yz (zd 0) zg (λ_ _=>rfl)) (yb zg (yb (yg vz (DE.dv (x6 (d:=.int 1000000) (v:=.int 1000000) rfl G_LAST_BEAT ⟨_,rfl⟩ (λ_=>.int))) (DE.dv zg)) zl) vx))) (zbc (ve (zvd hr) (DE.dv (yz (zd 0) zg (λ_ _=>rfl))) (DE.dv (xj (zk (x6 (d:=.str "silent") (v:=.str "silent") rfl G_SILENT ⟨_,rfl⟩ (λ_=>.str)) (zk (x6 (d:=.str "sound") (v:=.str "sound") rfl G_SOUND ⟨_,rfl⟩ (λ_=>.str)) ye)))) rfl)))))),?_⟩
 cases d with
 |tuple xs=>
  match xs,ok,q with
  |[],ok,q=>walk_at "ds";exact q
  |[a],ok,q=>
   walk_at "ds";rw[if_pos (by decide)];exact q
  |a::b::c::r,ok,q=>
   walk_at "ds";rw[if_pos (by omega)];exact q
  |[a,b],ok,q=>
   walk_at "ds";refine⟨_,x5 _ _,?_⟩;walk_at "ds";refine⟨_,_,_,rfl,?_⟩;show if inB 0 999999 a=true then _ else _
   replace q:Q (Ret.val (PyData.bool (inB 0 999999 a && wdB b))):=q
   cases c:inB 0 999999 a with
   |false=>
    rw[c]at q;exact q
   |true=>
    rw[c,Bool.true_and]at q;rw[if_pos rfl];have:∃i,a=.int i:=by
     cases a with
     |int i=>exact⟨i,rfl⟩
     |_=>cases c
    obtain⟨i,rfl⟩:=this;refine⟨_,we _ _ _,?_⟩;rcases ok i b rfl with⟨x,rfl,hx⟩|rfl |⟨j,rfl,hj⟩
    ·exact⟨zt5 hx,zjn,by rw[zqf];exact q⟩
    ·exact⟨zqe,zjn,by rw[zqh];exact q⟩
    ·exact⟨hj,zjn,by rw[zqg];exact q⟩
 |_=>walk_at "ds";exact q
def zoe:D->Bool
 |.tuple xs=>decide (xs.length<=12) && xs.all lkB
 |_=>false
def zof(d:D):Prop:=∀xs,d=.tuple xs->xs.length<=12->∀x∈xs,zv0 x
def qu:DSp:=λws Q=>∃d:D,ws = [.val d]/\zof d/\Q (.val (.bool (zoe d)))
theorem zed(B:Blt mg)(F:Fun K "looks_good" "looks_good" xg f fd){t_MOST_LOOKS:Tok}(G_MOST_LOOKS:mg "MOST_LOOKS" = some (.int 12 t_MOST_LOOKS))(C_look_good:Cal P w K mg base 3 "look_good" ["thing"] (z4 K za3)):FnOk P w K mg base CX0 4 f fd ["thing"] (z4 K qu):=by
 refine F.dok zd8 (λws Q h=>?_) (λcdv A outer s H ws Q E hr h=>?_)
 ·obtain⟨d,rfl,_⟩:=h;rfl
 obtain⟨d,rfl,ok,q⟩:=h;refine⟨_,(zf (yr (DWt.dt (w4 (xk (y0 (DE.dv (zbf (n := "tuple") zcj rfl B.isinstance boot_isinstance (zd 0) rfl B.tupleT boot_tuple)))) (wk (yc zb7 (DE.dv (ym zc1 rfl B.len PySem.boot_len (zn (zd 0) z7))) (DE.dv (x6 (d:=.int 12) (v:=.int 12) rfl G_MOST_LOOKS ⟨_,rfl⟩ (λ_=>.int))) (zy _))))) (ze (zq xa)) z3) (ze (zq (ym (zq9 rfl) rfl B.all boot_all (zn (DE.dv (DF.de (v5 rfl (N':=["look"]) (capt:=[]) (k:=1) (js:=[]) ⟨rfl,by decide,rfl,by decide,.nil,rfl,.nil,rfl,by decide⟩ (x8 (zd 0)) (λ_ _ _ _=>(zp (i:=0) (show List.Nodup (["look"]:List Str) by decide +kernel) rfl (Or.inl rfl) (Or.inr rfl))) (λ_ _ _ _=>wc) (λ_ _ _ _=>(zj C_look_good hr rfl (zm 0 zl)))))) z7))))),?_⟩
 cases d with
 |tuple xs=>
  walk_at "ds"
  replace q:Q (Ret.val (PyData.bool (decide (xs.length<=12) && xs.all lkB))):=q
  split
  ·next c=>
   rw[decide_eq_false (by omega)]at q;exact q
  ·next c=>
   rw[decide_eq_true (by omega),Bool.true_and]at q;have hx:=ok xs rfl (by omega);refine⟨by omega,?_⟩;have e:xs=xs.map id:=by simp
   rw[e];refine va id (λx=>.bool (lkB x)) (λx hm k hk=>?_) ⟨xs.map lkB,?_,?_⟩
   ·walk_at "ds";exact⟨x,rfl,hx x hm,hk⟩
   ·have:=j8 (xs.map lkB);rw[List.map_map]at this;exact this
   ·rw[List.all_map];exact q
 |_=>walk_at "ds";exact q
abbrev wS:Bool->Str
 |true=>SI
 |false=>SO
def lkD(p:Int×Bool):D:=.tuple [.int p.1,.str (wS p.2)]
structure Gk(ls:List (Int×Bool)):Prop where
 ln:ls.length<=12
 bd:∀p∈ls,0<=p.1/\p.1<=999999
theorem zt6{d:D}(h:wdB d=true):∃z,d=.str (wS z):=by
 cases d with
 |str x=>
  simp only[wdB,Bool.or_eq_true,decide_eq_true_eq]at h;rcases h with rfl|rfl
  ·exact⟨true,rfl⟩
  ·exact⟨false,rfl⟩
 |_=>cases h
theorem zt7{d:D}(h:lkB d=true):∃p:Int×Bool,d=lkD p/\0<=p.1/\p.1<=999999:=by
 unfold lkB at h
 split at h
 ·next a b=>
  rw[Bool.and_eq_true]at h;obtain⟨z,rfl⟩:=zt6 h.2
  cases a with
  |int i=>
   have h1:=h.1;simp only[inB,decide_eq_true_eq]at h1;exact⟨(i,z),rfl,h1.1,h1.2⟩
  |_=>cases h.1
 ·cases h
theorem zqi{d:D}(h:zoe d=true):∃ls:List (Int×Bool),d=.tuple (ls.map lkD)/\Gk ls:=by
 cases d with
 |tuple xs=>
  replace h:(decide (xs.length<=12) && xs.all lkB)=true:=h
  rw[Bool.and_eq_true,decide_eq_true_eq,List.all_eq_true]at h;obtain⟨hl,h⟩:=h;have:∃ls:List (Int×Bool),xs=ls.map lkD/\∀p∈ls,0<=p.1/\p.1<=999999:=by
   clear hl
   induction xs with
   |nil=>exact⟨[],rfl,λ_ h=>by cases h⟩
   |cons x xs ih=>
    obtain⟨ls,rfl,hb⟩:=ih λy hy=>h y (List.mem_cons_of_mem _ hy);obtain⟨p,rfl,h1,h2⟩:=zt7 (h x List.mem_cons_self);exact⟨p::ls,rfl,zan ⟨h1,h2⟩ hb⟩
  obtain⟨ls,rfl,hb⟩:=this;exact⟨ls,rfl,by rw[List.length_map]at hl;exact hl,hb⟩
 |_=>cases h
theorem zv1(z:Bool):wdB (.str (wS z))=true:=by cases z <;> simp[wdB]
theorem zhv{ls:List (Int×Bool)}(g:Gk ls):zoe (.tuple (ls.map lkD))=true:=by
 show(decide ((ls.map lkD).length<=12) && (ls.map lkD).all lkB)=true;rw[List.length_map,decide_eq_true g.ln,Bool.true_and,List.all_map,List.all_eq_true];intro p hp;have:=g.bd p hp;show(inB 0 999999 (.int p.1) && wdB (.str (wS p.2)))=true;rw[zv1,Bool.and_true];simp only[inB,decide_eq_true_eq];exact this
theorem zw6(z:Bool):((wS z).cps.all (· < 128))=true:=by cases z <;> decide +kernel
theorem zog(ls:List (Int×Bool)):zof (.tuple (ls.map lkD)):=λxs e _ x hx a b e2=>by
 cases e;obtain⟨p,_,rfl⟩:=List.mem_map.mp hx
 cases e2;exact .inl ⟨_,rfl,zw6 _⟩
theorem zqj(z:Bool):decide (wS z=SI)=z:=by cases z <;> decide +kernel
def za4:DSp:=λws Q=>∃(s:List (Int×Int)) (d:D),ws = [.val (.tuple (s.map pD)),.val d]/\s.length<=1000/\zof d/\(zoe d=false->Q (.val (.bool false)))/\∀ls,d=.tuple (ls.map lkD)->Gk ls->Q (.val (.bool (ls.all λp=>yf s p.1 == p.2)))
theorem zoh(B:Blt mg)(F:Fun K "holds" "holds" vo f fd){t_SILENT:Tok}(G_SILENT:mg "SILENT" = some (.str "silent" t_SILENT))(C_silent_at:Cal P w K mg base 1 "silent_at" ["story", "beat"] (z4 K vr))(C_looks_good:Cal P w K mg base 4 "looks_good" ["thing"] (z4 K qu)):FnOk P w K mg base CX0 5 f fd ["story", "thing"] (z4 K za4):=by
 refine F.dok znz (λws Q h=>?_) (λcdv A outer s H ws Q E hr h=>?_)
 ·obtain⟨s,d,rfl,_⟩:=h;rfl
 obtain⟨s,d,rfl,hs,ok,q0,q1⟩:=h;refine⟨_,(zf (yr (xk (y0 (DE.dv (zj C_looks_good hr rfl (zm 1 zl))))) (ze (zq xa)) z3) (ze (zq (ym (zq9 rfl) rfl B.all boot_all (zn (DE.dv (DF.de (v5 rfl (N':=["beat", "word", "story"]) (capt:=["story"]) (k:=2) (js:=[0]) ⟨rfl,by decide,rfl,by decide,(.cons rfl .nil),rfl,(.cons rfl (Or.inl rfl) rfl (Or.inl rfl) .nil),rfl,by decide⟩ (x8 (zd 1)) (λ_ _ _ _=>(xv (n:=2) rfl (zv (zp (i:=0) (show List.Nodup (["beat", "word", "story"]:List Str) by decide +kernel) rfl (Or.inl rfl) (Or.inr rfl)) (zv (zp (i:=1) (show List.Nodup (["beat", "word", "story"]:List Str) by decide +kernel) rfl (Or.inl rfl) (Or.inr rfl)) y1)))) (λ_ _ _ _=>wc) (λ_ _ _ _=>(ve (zcz hr) (DE.dv (zj C_silent_at hr rfl (zm 2 (zm 0 zl)))) (DE.dv (ve (zcz hr) (zd 1) (DE.dv (x6 (d:=.str "silent") (v:=.str "silent") rfl G_SILENT ⟨_,rfl⟩ (λ_=>.str))) (zy _))) (zy _)))))) z7))))),?_⟩;walk_at "ds";refine⟨d,rfl,ok,?_⟩
 cases c:zoe d with
 |false=>
  walk_at "ds";exact q0 c
 |true=>
  obtain⟨ls,rfl,g⟩:=zqi c;have ln:=g.ln;walk_at "ds";rw[List.length_map];refine⟨by omega,va lkD (λp=>.bool (yf s p.1 == p.2)) (λp hp k hk=>?_) ⟨ls.map λp=>yf s p.1 == p.2,?_,?_⟩⟩
  ·simp only[lkD];walk_at "ds";refine⟨s,p.1,rfl,by omega,?_⟩;show k (some (.bool (decide (yf s p.1=decide (wS p.2=SI)))));rw[zqj];exact hk
  ·have:=j8 (ls.map λp=>yf s p.1 == p.2);rw[List.map_map]at this;exact this
  ·rw[List.all_map];exact q1 ls rfl g
end
section
variable {P:Program}{w:World}{K:PySem.W.Frag}{mg:Str->Option Value}{base:Heap}{f:Addr}{fd:FuncData}
def zb3(st:List (Int×Int)×Bool)(p:Int×Bool):List (Int×Int)×Bool :=
 if p.2=false then (st.1,true) else if st.2=true then (st.1 ++ [(p.1,p.1+1)],false) else (st.1.dropLast ++ [((st.1.getLastD (0,0)).1,p.1+1)],false)
def wv(rs:List (Int×Bool)):List (Int×Int)×Bool:=rs.foldl zb3 ([],true)
structure InK(rs:List (Int×Bool))(st:List (Int×Int)×Bool)(m:Int):Prop where
 ne:st.2=false->∃u r,st.1=u ++ [r]/\r.2=m+1
 r:∀r∈st.1,0<=r.1/\r.1<r.2/\r.2<=m+1
 pt:st.2=true->∀r∈st.1,r.2<=m
 up:st.1.Pairwise λa b=>a.2<b.1
 ln:st.1.length<=rs.length
 sl:∀p∈rs,p.1<=m
 ok:∀p∈rs,yf st.1 p.1=p.2
theorem zd2(rs:List (Int×Bool))(p:Int×Bool):wv (rs ++ [p])=zb3 (wv rs) p:=by
 unfold wv;rw[List.foldl_append];rfl
theorem zhw{α:Type}{P:List α->Prop}(nil:P [])(snoc:∀xs x,P xs->P (xs ++ [x]))(xs:List α):P xs:=by
 have:∀n (xs:List α),xs.length=n->P xs:=by
  intro n
  induction n with
  |zero=>intro xs h;rw[List.eq_nil_of_length_eq_zero h];exact nil
  |succ n ih=>
   intro xs h;rcases List.eq_nil_or_concat xs with e |⟨ys,y,e⟩
   ·subst e;exact nil
   ·rw[e,List.concat_eq_append]at h ⊢;rw[List.length_append,List.length_singleton]at h;exact snoc ys y (ih ys (by omega))
 exact this _ xs rfl
theorem zt8{a b:Int×Bool}(h:¬ SQ.ipK (b.1,wS b.2)<SQ.ipK (a.1,wS a.2)):a.1<=b.1:=by
 unfold SQ.ipK at h;rw[List.cons_lt_cons_iff]at h;simp only[not_or]at h;have:=h.1;show a.1<=b.1;have h2:¬ b.1<a.1:=this;omega
theorem zgj{α β:Type}{f:α->β}(h:∀a b,f a=f b->a=b):∀{xs ys:List α},xs.map f=ys.map f->xs=ys
 |[],[],_=>rfl
 |[],_::_,e=>by cases e
 |_::_,[],e=>by cases e
 |x::xs,y::ys,e=>by
  simp only[List.map_cons,List.cons.injEq]at e;rw[h _ _ e.1,zgj h e.2]
theorem zkv(a b:Int×Bool)(h:lkD a=lkD b):a=b:=by
 obtain⟨i,x⟩:=a;obtain⟨j,y⟩:=b;simp only[lkD,PyData.tuple.injEq,List.cons.injEq,PyData.int.injEq,PyData.str.injEq,and_true]at h;have:decide (wS x=SI)=decide (wS y=SI):=by rw[h.2]
 rw[zqj,zqj]at this;rw[h.1,this]
def za5:DSp:=λws Q=>∃ls:List (Int×Bool),ws = [.val (.tuple (ls.map lkD))]/\Gk ls/\∀rs:List (Int×Bool),rs.Perm ls->rs.Pairwise (λa b=>a.1<=b.1)->Q (.val (if (ls.all λp=>yf (wv rs).1 p.1 == p.2)=true then .tuple ((wv rs).1.map pD) else .none))
theorem zbu(rs:List (Int×Bool)):(wv rs).1.length<=rs.length/\((wv rs).2=false->(wv rs).1 ≠ []):=by
 induction rs using zhw with
 |nil=>exact⟨Nat.le_refl _,λe=>by cases e⟩
 |snoc rs p ih=>
  rw[zd2,List.length_append,List.length_singleton];unfold zb3;obtain⟨h1,h2⟩:=ih
  split
  ·exact⟨Nat.le_succ_of_le h1,λe=>by cases e⟩
  ·split
   ·exact⟨by simp;omega,λ_=>by simp⟩
   ·next z=>
    refine⟨?_,λ_=>by simp⟩;have:(wv rs).1 ≠ []:=h2 (by simpa using z);have:=List.length_pos_iff.mpr this;simp;omega
theorem zgk(B:Blt mg)(F:Fun K "story_for" "story_for" xr f fd){t_SOUND:Tok}(G_SOUND:mg "SOUND" = some (.str "sound" t_SOUND))(C_looks_good:Cal P w K mg base 4 "looks_good" ["thing"] (z4 K qu))(C_holds:Cal P w K mg base 5 "holds" ["story", "thing"] (z4 K za4)):FnOk P w K mg base CX0 6 f fd ["looks"] (z4 K za5):=by
 refine F.dok sc_story_for (λws Q h=>?_) (λcdv A outer s H ws Q E hr h=>?_)
 ·obtain⟨d,rfl,_⟩:=h;rfl
 obtain⟨ls,rfl,g,q1⟩:=h;have ok:=zog ls;have c:=zhv g;refine⟨_,(zf (yr (xk (y0 (DE.dv (zj C_looks_good hr rfl (zm 0 zl))))) (ze w5) z3) (zf (zal (i:=1) sc_story_for.nd rfl (Or.inl rfl) (vc ye)) (zf (xi (i:=2) sc_story_for.nd rfl (Or.inl rfl) xa) (zf (wo PassesOwn.never rfl (v4 (DF.de (zgy zp8 rfl B.sorted boot_sorted (zn (zd 0) z7)))) (xv (n:=2) rfl (zv (zp (i:=3) sc_story_for.nd rfl (Or.inl rfl)) (zv (zp (i:=4) sc_story_for.nd rfl (Or.inl rfl)) y1))) (ze (yr (yc (zcz hr) (zd 4) (DE.dv (x6 (d:=.str "sound") (v:=.str "sound") rfl G_SOUND ⟨_,rfl⟩ (λ_=>.str))) (zy _)) (ze (xi (i:=2) sc_story_for.nd rfl (Or.inl rfl) xa)) (ze (yr (y0 (zd 2)) (zf (wy 1 (xj (zk (ya 3) (zk (yg wj (zd 3) (DE.dv zg)) ye)))) (ze (xi (i:=2) sc_story_for.nd rfl (Or.inl rfl) xa))) (ze (zfp 1 (xj (zk (yz (DE.dv (yz (zd 1) (wn zg) (λ_ _=>rfl))) zg (λ_ _=>rfl)) (zk (yg wj (zd 3) (DE.dv zg)) ye))) (wn zg)))))))) (zf (xi (i:=5) sc_story_for.nd rfl (Or.inl rfl) (wb qc rfl B.tupleT boot_tuple (zn (zd 1) z7))) (zf (yr (xk (y0 (DE.dv (zj C_holds hr rfl (zm 5 (zm 0 zl)))))) (ze (zq zcx)) z3) (ze (zq (ya 5))))))))),?_⟩;walk_at "ds";refine⟨.tuple (ls.map lkD),rfl,ok,?_⟩;have ln:=g.ln;rw[c];walk_at "ds";rw[List.length_map];refine⟨by omega,ls.map λp=>(p.1,wS p.2),by rw[List.map_map];rfl,λqs pm pw=>?_⟩;obtain⟨rs,rfl,prm⟩:∃rs:List (Int×Bool),qs=rs.map (λp=>(p.1,wS p.2))/\rs.Perm ls:=by
  have:∃rs:List (Int×Bool),qs=rs.map (λp=>(p.1,wS p.2))/\(rs.map (λp=>(p.1,wS p.2))).Perm (ls.map λp=>(p.1,wS p.2)):=by
   have hm:∀x∈qs,∃p:Int×Bool,x=(p.1,wS p.2):=λx hx=>by
    obtain⟨p,_,rfl⟩:=List.mem_map.mp (pm.mem_iff.mp hx);exact⟨p,rfl⟩
   obtain⟨rs,e⟩:∃rs:List (Int×Bool),qs=rs.map (λp=>(p.1,wS p.2)):=by
    clear pm pw
    induction qs with
    |nil=>exact⟨[],rfl⟩
    |cons x qs ih=>
     obtain⟨rs,rfl⟩:=ih λy hy=>hm y (List.mem_cons_of_mem _ hy);obtain⟨p,rfl⟩:=hm x List.mem_cons_self;exact⟨p::rs,rfl⟩
   exact⟨rs,e,by rw[<-e];exact pm⟩
  obtain⟨rs,e,pp⟩:=this;refine⟨rs,e,?_⟩;have:=pp.map λx:Int×Str=>(x.1,decide (x.2=SI))
  rw[List.map_map,List.map_map]at this;have ee:∀l:List (Int×Bool),l.map ((λx:Int×Str=>(x.1,decide (x.2=SI))) ∘ λp:Int×Bool=>(p.1,wS p.2))=l:=λl=>by
   conv=>rhs;rw[<-List.map_id l]
   refine List.map_congr_left λp _=>?_;show(p.1,decide (wS p.2=SI))=p;rw[zqj]
  rw[ee,ee]at this;exact this
 have up:rs.Pairwise λa b=>a.1<=b.1:=(List.pairwise_map.mp pw).imp λh=>zt8 h;have lr:rs.length<=12:=by rw[prm.length_eq];exact ln
 have lf:=(zbu rs).1;have qq:=q1 rs prm up;rw[List.map_map];refine xx (λds σ=>∃(pre post:List (Int×Bool)) (u3 u4:Option W),rs=pre++post/\ds=post.map (ipD ∘ λp=>(p.1,wS p.2))/\σ = [some (.val (.tuple (ls.map lkD))),some (.own (.lst ((wv pre).1.map pD))),some (.val (.bool (wv pre).2)),u3,u4,none]) ?_ ?_ ⟨[],rs,none,none,rfl,rfl,rfl⟩
 ·rintro d ds σ N ⟨pre,post,u3,u4,er,e,rfl⟩ k
  cases post with
  |nil=>cases e
  |cons p post=>
   cases e;have fin:=λu3 u4=>k [some (.val (.tuple (ls.map lkD))),some (.own (.lst ((wv (pre ++ [p])).1.map pD))),some (.val (.bool (wv (pre ++ [p])).2)),u3,u4,none] ⟨pre ++ [p],post,u3,u4,by rw[er,List.append_assoc];rfl,rfl,rfl⟩;have lp:(wv pre).1.length<=12:=by
    have:=(zbu pre).1;rw[er,List.length_append]at lr;omega
   have hne:=(zbu pre).2;simp only[zd2]at fin;simp only[Function.comp,ipD];walk_at "ds";obtain⟨b,z⟩:=p;generalize wv pre=st at fin lp hne;obtain⟨s,t⟩:=st
   cases z with
   |false=>
    rw[if_pos rfl];exact fin _ _
   |true=>
    rw[if_neg (show ¬ wS true=Str.ofString "sound" by decide +kernel)]
    cases t with
    |true=>
     have:=fin (some (.val (.int b))) (some (.val (.str SI)));simp only[zb3]at this;walk_at "ds";rw[List.length_map];refine⟨by show s.length<_;have:s.length<=12:=lp;omega,?_⟩;simpa[pD]using this
    |false=>
     obtain⟨u,r,es⟩:∃u r,s=u ++ [r]:=by
      rcases List.eq_nil_or_concat s with e |⟨u,r,e⟩
      ·exact absurd e (hne rfl)
      ·exact⟨u,r,by rw[e,List.concat_eq_append]⟩
     subst es;have:=fin (some (.val (.int b))) (some (.val (.str SI)));simp only[zb3]at this;walk_at "ds";rw[List.map_append,List.map_cons,List.map_nil];refine⟨_,atI_end _ _,?_⟩;simp only[pD];walk_at "ds";refine⟨_,x5 _ _,_,zdq _ _,?_⟩;rw[zf6];simpa[pD]using this
 ·rintro σ ⟨pre,post,u3,u4,er,e,rfl⟩
  cases post with
  |cons p post=>cases e
  |nil=>
   rw[List.append_nil]at er;subst er;walk_at "ds";refine⟨(wv rs).1,_,rfl,by omega,ok,λz=>absurd z (by rw[c];decide),λls' e' g'=>?_⟩;have el:ls'=ls:=by
    have e':ls.map lkD=ls'.map lkD:=by simpa using e'
    exact(zgj zkv e').symm
   subst el;walk_at "ds"
   cases z:ls'.all λp=>yf (wv rs).1 p.1 == p.2 with
   |true=>
    rw[z]at qq;simpa using qq
   |false=>
    rw[z]at qq;simpa using qq
end
section
variable {P:Program}{w:World}{K:PySem.W.Frag}{mg:Str->Option Value}{base:Heap}{f:Addr}{fd:FuncData}
def zb4:DSp:=λws Q=>∃ns:List Int,ws = [.val (.list (ns.map PyData.int))]/\ns.length<=40/\(∀n∈ns,0<=n/\n<=999999)/\∀ms:List Int,ms.Pairwise (· < ·)->(∀x,x∈ms↔x∈ns)->ms.length<=40->Q (.val (.tuple ((ms.foldl qp []).map pD)))
theorem zkw:∀{ms ns:List Int},ms.Nodup->(∀x∈ms,x∈ns)->ms.length<=ns.length
 |[],ns,_,_=>Nat.zero_le _
 |x::ms,ns,nd,h=>by
  obtain⟨h1,h2⟩:=List.nodup_cons.mp nd;have hx:=h x List.mem_cons_self;have:=zkw (ms:=ms) (ns:=ns.erase x) h2 λy hy=>(List.mem_erase_of_ne λz=>h1 (by rw[<-z];exact hy)).mpr (h y (List.mem_cons_of_mem _ hy));rw[List.length_erase_of_mem hx]at this;have:=List.length_pos_of_mem hx;rw[List.length_cons];omega
theorem zhx:∀(bs:List Int) (s:List (Int×Int)),(bs.foldl qp s).length<=s.length+bs.length
 |[],s=>Nat.le_refl _
 |b::bs,s=>by
  have h1:=zhx bs (qp s b);have h2:=zhp s b;rw[List.foldl_cons,List.length_cons];omega
theorem zhy(B:Blt mg)(F:Fun K "story_of" "story_of" x0 f fd){t_MOST_STRETCHES:Tok}(G_MOST_STRETCHES:mg "MOST_STRETCHES" = some (.int 200 t_MOST_STRETCHES)){t_LAST_BEAT:Tok}(G_LAST_BEAT:mg "LAST_BEAT" = some (.int 1000000 t_LAST_BEAT))(C_whole_in:Cal P w K mg base 2 "whole_in" ["thing", "least", "most"] (z4 K qg))(C_stretches_of:Cal P w K mg base 1 "stretches_of" ["beats"] (z4 K vh)):FnOk P w K mg base CX0 3 f fd ["things"] (z4 K zb4):=by
 refine F.dok sc_story_of (λws Q h=>?_) (λcdv A outer s H ws Q E hr h=>?_)
 ·obtain⟨ns,rfl,_⟩:=h;rfl
 obtain⟨ns,rfl,hl,hb,q⟩:=h;refine⟨_,(zf (wo PassesOwn.never rfl (znf rfl B.enumerate (zk (ya 0) ye)) (xv (n:=2) rfl (zv (zp (i:=1) sc_story_of.nd rfl (Or.inl rfl)) (zv (zp (i:=2) sc_story_of.nd rfl (Or.inl rfl)) y1))) (ze (yr (xk (y0 (DE.dv (zj C_whole_in hr rfl (zm 2 (yb zg (yb (yg vz (DE.dv (x6 (d:=.int 1000000) (v:=.int 1000000) rfl G_LAST_BEAT ⟨_,rfl⟩ (λ_=>.int))) (DE.dv zg)) zl) vx)))))) (ze w5) z3))) (zf (xi (i:=3) sc_story_of.nd rfl (Or.inl rfl) (zj C_stretches_of hr rfl (yb (DF.de (zfy rfl B.sorted rfl B.setT rfl (zn (zd 0) z7))) zl))) (zf (yr (yc zb7 (DE.dv (ym zc1 rfl B.len PySem.boot_len (zn (zd 3) z7))) (DE.dv (x6 (d:=.int 200) (v:=.int 200) rfl G_MOST_STRETCHES ⟨_,rfl⟩ (λ_=>.int))) (zy _)) (ze w5) z3) (ze (zq (ya 3)))))),?_⟩;walk_at "ds";refine xx (λds σ=>∃(a b:List Int) (u v:Option W),ns=a++b/\ds=kr a.length (b.map PyData.int)/\σ = [some (.val (.list (ns.map PyData.int))),u,v,none]) ?_ ?_ ⟨[],ns,none,none,rfl,rfl,rfl⟩
 ·rintro d ds σ N ⟨a,b,u,v,e1,e2,rfl⟩ k
  cases b with
  |nil=>cases e2
  |cons x b=>
   cases e2;have hx:=hb x (by rw[e1];simp);walk_at "ds";refine⟨.int x,0,1000000-1,rfl,?_⟩;have c:inB 0 (1000000-1) (.int x)=true:=by
    simp only[inB,decide_eq_true_eq];omega
   rw[c];walk_at "ds";exact k _ ⟨a ++ [x],b,_,_,by rw[e1];simp,by rw[List.length_append];rfl,rfl⟩
 ·rintro σ ⟨a,b,u,v,e1,e2,rfl⟩
  cases b with
  |cons x b=>cases e2
  |nil=>
   walk_at "ds";refine⟨ns,rfl,by omega,λms pw hm=>?_⟩;have lm:ms.length<=ns.length:=zkw (pw.imp λh=>Int.ne_of_lt h) λx hx=>(hm x).mp hx;have lf:=zhx ms [];refine⟨ms,rfl,by omega,?_⟩;walk_at "ds";rw[List.length_map,if_neg (by rw[List.length_nil]at lf;omega)];exact q ms pw hm (by omega)
def qw:DSp:=λws Q=>∃(s:List (Int×Int)) (n:Nat),ws = [.val (.tuple (s.map pD)),.val (.int n)]/\s.length<=1000/\n<=2000/\Q (.new ((List.range n).map λi:Nat=>PyData.bool (yf s (i:Int))))
theorem zee(B:Blt mg)(F:Fun K "_law_marks" "_law_marks" xh f fd)(C_silent_at:Cal P w K mg base 1 "silent_at" ["story", "beat"] (z4 K vr)):FnOk P w K mg base CX0 2 f fd ["_law_story", "_law_most"] (z4 K qw):=by
 refine F.dok zd9 (λws Q h=>?_) (λcdv A outer s H ws Q E hr h=>?_)
 ·obtain⟨s,n,rfl,_⟩:=h;rfl
 obtain⟨s,n,rfl,hs,hn,q⟩:=h;refine⟨_,(ze (zcm (v5 rfl (N':=["_law_beat", "_law_story"]) (capt:=["_law_story"]) (k:=1) (js:=[0]) ⟨rfl,by decide,rfl,by decide,(.cons rfl .nil),rfl,(.cons rfl (Or.inl rfl) rfl (Or.inl rfl) .nil),rfl,by decide⟩ (DI.w (vv rfl B.range (zk (ya 1) ye))) (λ_ _ _ _=>(zp (i:=0) (show List.Nodup (["_law_beat", "_law_story"]:List Str) by decide +kernel) rfl (Or.inl rfl) (Or.inr rfl))) (λ_ _ _ _=>wc) (λ_ _ _ _=>(zj C_silent_at hr rfl (zm 1 (zm 0 zl))))))),?_⟩;walk_at "ds";rw[zaa];refine⟨by omega,by omega,?_⟩;unfold wa;refine va (λi:Nat=>PyData.int (0+(i:Nat))) (λi:Nat=>PyData.bool (yf s (i:Int))) (λi hi k hk=>?_) ?_
 ·walk_at "ds";refine⟨s,_,rfl,by omega,?_⟩;rw[Int.zero_add];exact hk
 ·rw[Int.toNat_natCast];exact q
end
section
variable {P:Program}{w:World}{K:PySem.W.Frag}{mg:Str->Option Value}{base:Heap}{f:Addr}{fd:FuncData}
theorem zqk{s:List (Int×Int)}{b:Int}(c:Cn s)(h:∀r∈s,r.2<=b):Cn (qp s b)/\∀x,Mm (qp s b) x↔Mm s x\/x=b:=by
 rcases v6 s with rfl |⟨t,r,rfl⟩
 ·rw[ji];refine⟨zd0 (by show b<b+1;omega),λx=>?_⟩;rw[zae];constructor
  ·intro z;simp only[]at z;exact .inr (by omega)
  ·rintro (z|z)
   ·exact absurd z jl
   ·simp only[];omega
 ·rw[jj];have hr:=h r (List.mem_append_right _ List.mem_cons_self);obtain⟨h1,h2,h3⟩:=c.snoc
  by_cases e:r.2=b
  ·rw[if_pos e];refine⟨zdz h1 (zd0 (by show r.1<b+1;omega)) (λa ha q hq=>by cases List.mem_singleton.mp hq;exact h3 a ha),λx=>?_⟩;rw[qt,zae,qt,zae];constructor
   ·rintro (z|z)
    ·exact .inl (.inl z)
    ·simp only[]at z
     by_cases y:x<b
     ·exact .inl (.inr (by omega))
     ·exact .inr (by omega)
   ·rintro ((z|z)|z)
    ·exact .inl z
    ·exact .inr (by simp only[];omega)
    ·exact .inr (by simp only[];omega)
  ·rw[if_neg e];refine⟨zdz c (zd0 (by show b<b+1;omega)) (λa ha q hq=>?_),λx=>?_⟩
   ·cases List.mem_singleton.mp hq;rcases List.mem_append.mp ha with ha|ha
    ·have:=h3 a ha;show a.2<b;omega
    ·cases List.mem_singleton.mp ha;show r.2<b;omega
   ·rw[qt (t:=[(b,b+1)]),zae];constructor
    ·rintro (z|z)
     ·exact .inl z
     ·simp only[]at z;exact .inr (by omega)
    ·rintro (z|z)
     ·exact .inl z
     ·exact .inr (by simp only[];omega)
theorem zgl(ms:List Int):ms.Pairwise (· < ·)->Cn (ms.foldl qp [])/\∀x,Mm (ms.foldl qp []) x↔x∈ms:=by
 induction ms using zhw with
 |nil=>intro _;exact⟨zjk,λx=>⟨λh=>absurd h jl,λh=>by cases h⟩⟩
 |snoc ms b ih=>
  intro pw;rw[List.pairwise_append]at pw;obtain⟨c,m⟩:=ih pw.1;rw[List.foldl_append,List.foldl_cons,List.foldl_nil];obtain⟨c2,m2⟩:=zqk (b:=b) c λr hr=>by
   have h1:=c.1 r hr;have:=(m (r.2-1)).mp ⟨r,hr,by omega,by omega⟩;have:=pw.2.2 _ this b List.mem_cons_self;omega
  refine⟨c2,λx=>?_⟩;rw[m2 x,m x,List.mem_append,List.mem_singleton]
structure Sm(m:Int)(s:List (Int×Int)):Prop where
 c:Cn s
 b:∀r∈s,0<=r.1/\r.2<=m
 m0:0<=m
 m1:m<=24
theorem Sm.ln{m:Int}{s:List (Int×Int)}(h:Sm m s):s.length<=12:=by
 have h0:=h.m0;have h1:=h.m1;have:=zt4 (a:=0) (m:=m) h.c h.b (by omega);omega
theorem Sm.ok{m:Int}{s:List (Int×Int)}(h:Sm m s):SOk s:=⟨λr hr=>by
 have h1:=h.m1;have h2:=h.b r hr;have h3:=h.c.1 r hr;omega,h.c.2,by have:=h.ln;omega⟩
theorem Sm.mm{m:Int}{s:List (Int×Int)}(h:Sm m s){x:Int}(hx:Mm s x):0<=x/\x<m:=by
 obtain⟨r,hr,h1,h2⟩:=hx;have:=h.b r hr;omega
theorem Sm.of{m:Int}{s:List (Int×Int)}(h0:0<=m)(h1:m<=24)(c:Cn s)(h:∀x,Mm s x->0<=x/\x<m):Sm m s:=⟨c,λr hr=>by
 have:=zvz c h r hr;omega,h0,h1⟩
theorem Sm.lay{m:Int}{s:List (Int×Int)}(h:Sm m s):Lay (.tuple (s.map pD)) :=
 (Sh.tup (n:=89) (k:=1) (m:=13) (λd hd=>by
  obtain⟨r,hr,rfl⟩:=List.mem_map.mp hd;have:=h.ok.le r hr;exact zko (by omega) (by omega) (by omega) (by omega)) (by rw[List.length_map];exact h.ok.ln)).lay (by decide)
theorem zkx(N n:Nat):(ky N n).Pairwise (· < ·):=by
 unfold ky;rw[List.pairwise_map];refine(List.Pairwise.filter _ List.pairwise_lt_range).imp λ{a b} h=>?_;omega
theorem zoi(N n:Nat)(x:Int):x∈ky N n↔0<=x/\x<n/\bt N x.toNat=true:=by
 unfold ky;rw[List.mem_map];constructor
 ·rintro ⟨i,hi,rfl⟩;rw[List.mem_filter,List.mem_range]at hi;exact⟨by omega,by omega,by rw[Int.toNat_natCast];exact hi.2⟩
 ·rintro ⟨h1,h2,h3⟩;exact⟨x.toNat,List.mem_filter.mpr ⟨List.mem_range.mpr (by omega),h3⟩,by omega⟩
theorem zrn{N n:Nat}(h:N<2 ^ n)(hn:n<=24):stN N 25=(ky N n).foldl qp []:=by
 have:=zds h (25-n);rw[show n+(25-n)=25 by omega]at this;rw[this,zdr]
theorem zoj{N n:Nat}(h:N<2 ^ n)(hn:n<=24)(x:Int):Mm (stN N 25) x↔0<=x/\x<n/\bt N x.toNat=true:=by
 rw[zrn h hn,(zgl _ (zkx N n)).2 x,zoi]
theorem zhz{N n:Nat}(h:N<2 ^ n)(hn:n<=24):Sm n (stN N 25):=by
 refine Sm.of (by omega) (by omega) (by rw[zrn h hn];exact(zgl _ (zkx N n)).1) λx hx=>?_;have:=(zoj h hn x).mp hx;exact⟨this.1,this.2.1⟩
def lk3(r:Int×Int):List (Int×Bool):=[(r.2,false),(r.1,true),(r.2-1,true)]
def zef(r:Int×Int):List (Int×Bool):=[(r.1,true),(r.2-1,true),(r.2,false)]
theorem zql(r:Int×Int):(lk3 r).Perm (zef r):=by
 unfold lk3 zef;exact(List.Perm.swap _ _ _).trans (.cons _ (List.Perm.swap _ _ _))
theorem za6:∀s:List (Int×Int),(s.flatMap lk3).Perm (s.flatMap zef)
 |[]=>.nil
 |r::s=>by
  rw[List.flatMap_cons,List.flatMap_cons];exact(zql r).append (za6 s)
theorem zh0:∀(s acc:List (Int×Int)),(s.flatMap zef).foldl zb3 (acc,true)=(acc++s,true)
 |[],acc=>by rw[List.append_nil];rfl
 |r::s,acc=>by
  rw[List.flatMap_cons,List.foldl_append];have e:(zef r).foldl zb3 (acc,true)=(acc ++ [r],true):=by
   unfold zef;simp only[List.foldl_cons,List.foldl_nil,zb3];simp
  rw[e,zh0 s,List.append_assoc];rfl
theorem zcn{s:List (Int×Int)}{p:Int×Bool}(h:p∈s.flatMap lk3):∃r∈s,(p=(r.2,false))\/p=(r.1,true)\/p=(r.2-1,true):=by
 obtain⟨r,hr,hp⟩:=List.mem_flatMap.mp h;refine⟨r,hr,?_⟩;unfold lk3 at hp;simpa using hp
theorem zv2{s:List (Int×Int)}(c:Cn s){r:Int×Int}(hr:r∈s):yf s r.2=false/\yf s r.1=true/\yf s (r.2-1)=true:=by
 have h1:=c.1 r hr;refine⟨?_,sil_iff.mpr ⟨r,hr,by omega,by omega⟩,sil_iff.mpr ⟨r,hr,by omega,by omega⟩⟩
 cases e:yf s r.2 with
 |false=>rfl
 |true=>
  obtain⟨q,hq,h4,h5⟩:=sil_iff.mp e;have h7:=c.1 q hq;rcases zkr c hr hq with z|z|z
  ·subst z;omega
  ·omega
  ·omega
theorem zco{s t:List (Int×Int)}(c:Cn s)(h:∀r∈t,r∈s):((t.flatMap lk3).all λp=>yf s p.1 == p.2)=true:=by
 rw[List.all_eq_true];intro p hp;obtain⟨r,hr,e⟩:=zcn hp;have k:=zv2 c (h r hr);rcases e with rfl|rfl|rfl
 ·simp only[k.1];rfl
 ·simp only[k.2.1];rfl
 ·simp only[k.2.2];rfl
theorem zt9{s:List (Int×Int)}(c:Cn s){rs:List (Int×Bool)}(p:rs.Perm (s.flatMap lk3))(up:rs.Pairwise λa b=>a.1<=b.1):(wv rs).1=s:=by
 have so:(s.flatMap zef).Pairwise λa b=>a.1<=b.1:=by
  clear p up
  induction s with
  |nil=>exact .nil
  |cons r s ih=>
   have h:=c.head;rw[List.flatMap_cons,List.pairwise_append];refine⟨?_,ih c.tail,λa ha b hb=>?_⟩
   ·unfold zef;simp;omega
   ·obtain⟨q,hq,hb⟩:=List.mem_flatMap.mp hb;have h2:=h.2 q hq;have h3:=c.tail.1 q hq;unfold zef at ha hb;simp only[List.mem_cons,List.not_mem_nil,or_false]at ha hb;rcases ha with rfl|rfl|rfl <;> rcases hb with rfl|rfl|rfl <;> simp only[] <;> omega
 have e:rs=s.flatMap zef:=(p.trans (za6 s)).eq_of_pairwise (λa b ha hb h1 h2=>by
  obtain⟨r,hr,za⟩:=zcn (p.mem_iff.mp ha);obtain⟨q,hq,zb⟩:=zcn ((za6 s).mem_iff.mpr hb);have ek:a.1=b.1:=Int.le_antisymm h1 h2;have ka:=List.all_eq_true.mp (zco c λ_ h=>h) a (p.mem_iff.mp ha);have kb:=List.all_eq_true.mp (zco c λ_ h=>h) b ((za6 s).mem_iff.mpr hb);simp only[beq_iff_eq]at ka kb;refine Prod.ext ek ?_;rw[<-ka,<-kb,ek]) up so
 unfold wv;rw[e,zh0];rfl
def vk:DSp:=λws Q=>∃(s:List (Int×Int)) (m:Int),ws = [.val (.tuple (s.map pD))]/\Sm m s/\Q (.val (.bool true))
theorem jv(B:Blt mg)(F:Fun K "_law_looks_right" "_law_looks_right" yh f fd)(C_holds:Cal P w K mg base 5 "holds" ["story", "thing"] (z4 K za4))(C_story_for:Cal P w K mg base 6 "story_for" ["looks"] (z4 K za5)):FnOk P w K mg base CX0 7 f fd ["_law_story"] (z4 K vk):=by
 refine F.dok sc__law_looks_right (λws Q h=>?_) (λcdv A outer s H ws Q E hr h=>?_)
 ·obtain⟨s,m,rfl,_⟩:=h;rfl
 obtain⟨s,m,rfl,o,q⟩:=h;refine⟨_,(zf (xi (i:=1) sc__law_looks_right.nd rfl (Or.inl rfl) (DF.de (vc ye))) (zf (wo PassesOwn.never rfl (v4 (zgz (zd 0) zj5 (zck zg))) (xv (n:=2) rfl (zv (zp (i:=2) sc__law_looks_right.nd rfl (Or.inl rfl)) (zv (zp (i:=3) sc__law_looks_right.nd rfl (Or.inl rfl)) y1))) (ze (xi (i:=1) sc__law_looks_right.nd rfl (Or.inl rfl) (yg wj (zd 1) (DE.dv (DF.de (vc (zk (xj (zk (ya 3) (zk zig ye vx))) (zk (xj (zk (ya 2) (zk zig ye vx))) (zk (xj (zk (yg vz (zd 3) (DE.dv zg)) (zk zig ye vx))) ye zo7) zo7) zo7)))))))) (zf (xi (i:=4) sc__law_looks_right.nd rfl (Or.inl rfl) (zj C_story_for hr rfl (yb (wb qc rfl B.tupleT boot_tuple (zn (zd 1) z7)) zl))) (ze (zq (j5 (ve (zcz hr) (zd 4) (DE.dv (zgz (zd 0) zj5 (zck zg))) (zy _)) (j5 (ve zre (DE.dv (zj C_holds hr rfl (zm 0 (yb (wb qc rfl B.tupleT boot_tuple (zn (zd 1) z7)) zl)))) (DE.dv xa) (zy _)) (zbc (ve zre (DE.dv (zj C_holds hr rfl (zm 4 (yb (wb qc rfl B.tupleT boot_tuple (zn (zd 1) z7)) zl)))) (DE.dv xa) (zy _)))))))))),?_⟩;have ln:=o.ln;have hm1:=o.m1;have s4:∀r∈s.take 4,r∈s:=λr hr=>List.mem_of_mem_take hr;have c4:Cn (s.take 4):=⟨λr hr=>o.c.1 r (s4 r hr),List.Pairwise.sublist (List.take_sublist 4 s) o.c.2⟩
 have o4:Sm m (s.take 4):=⟨c4,λr hr=>o.b r (s4 r hr),o.m0,o.m1⟩
 have l4:(s.take 4).length<=4:=by rw[List.length_take];omega
 walk_at "ds";rw[sliceD_take0 _ (by decide),show(4:Int).toNat=4 from rfl,<-List.map_take];generalize hs4:s.take 4=t at s4 c4 o4 l4;refine xx (λds σ=>∃(p z:List (Int×Int)) (u v:Option W),ds=z.map pD/\p++z=t/\σ = [some (.val (.tuple (s.map pD))),some (.val (.list ((p.flatMap lk3).map lkD))),u,v,none]) ?_ ?_ ⟨[],t,none,none,rfl,rfl,rfl⟩
 ·rintro d ds σ N ⟨p,z,u,v,e,ez,rfl⟩ k
  cases z with
  |nil=>cases e
  |cons r z=>
   cases e;have lp:p.length<=4:=by have:=congrArg List.length ez;rw[List.length_append]at this;omega
   simp only[pD];walk_at "ds";have ll:(p.flatMap lk3).length<=12:=by
    rw[List.length_flatMap];refine Nat.le_trans (zgg (n:=3) λx hx=>?_) (by rw[List.length_map];omega);obtain⟨y,_,rfl⟩:=List.mem_map.mp hx;exact Nat.le_refl 3
   refine⟨by rw[List.length_map];omega,k _ ⟨p ++ [r],z,_,_,rfl,(by rw[List.append_assoc];exact ez),(by rw[List.flatMap_append,List.map_append];rfl)⟩⟩
 ·rintro σ ⟨p,z,u,v,e,ez,rfl⟩
  cases z with
  |cons r z=>cases e
  |nil=>
   rw[List.append_nil]at ez;subst ez;walk_at "ds";have ll:(p.flatMap lk3).length<=12:=by
    rw[List.length_flatMap];refine Nat.le_trans (zgg (n:=3) λx hx=>?_) (by rw[List.length_map];omega);obtain⟨y,_,rfl⟩:=List.mem_map.mp hx;exact Nat.le_refl 3
   have gk:Gk (p.flatMap lk3):=⟨ll,λx hx=>by
    obtain⟨r,hr,e⟩:=zcn hx;have h1:=o4.b r hr;have h2:=c4.1 r hr;rcases e with rfl|rfl|rfl <;> simp only[] <;> omega⟩
   have lp:=o4.ln;refine⟨p.flatMap lk3,rfl,gk,λrs prm up=>?_⟩;rw[zt9 c4 prm up,if_pos (zco c4 λ_ h=>h),sliceD_take0 _ (by decide),show(4:Int).toNat=4 from rfl,<-List.map_take,hs4];have ly:=o4.lay;have hd:∀(x:List (Int×Int)) (K:Ret->Prop),Cn x->x.length<=12->(∀r∈p,r∈x)->K (.val (.bool true))->za4 [W.val (.tuple (x.map pD)),W.val (.tuple ((p.flatMap lk3).map lkD))] K:=λx K cx lx hx hK=>⟨x,_,rfl,by omega,zog _,λz=>absurd (zhv gk) (by rw[z];decide),λls' e' g'=>by
    have el:ls'=p.flatMap lk3:=by
     have e':(p.flatMap lk3).map lkD=ls'.map lkD:=by simpa using e'
     exact(zgj zkv e').symm
    subst el;rw[zco cx hx];exact hK⟩
   refine⟨ly,ly,?_⟩;rw[jd ly];walk_at "ds";refine hd s _ o.c ln s4 ?_;walk_at "ds";refine hd p _ c4 lp (λ_ h=>h) ?_;exact q
end
section
variable {P:Program}{w:World}{K:PySem.W.Frag}{mg:Str->Option Value}{base:Heap}{f:Addr}{fd:FuncData}
def Trn(m:Int)(a t:List (Int×Int)):Prop:=Cn t/\∀x,Mm t x↔(0<=x/\x<m)/\¬ Mm a x
theorem Trn.sm{m:Int}{a t:List (Int×Int)}(o:Sm m a)(h:Trn m a t):Sm m t:=Sm.of o.m0 o.m1 h.1 λx hx=>((h.2 x).mp hx).1
theorem cut_eq{s:List (Int×Int)}(c:Cn s){m:Int}(h:0<=m):(s.map (vt 0 m)).sum=cI (yf s) 0 m.toNat:=by
 have:=zgf c h;rw[Int.sub_zero]at this;exact this
theorem zqm{m:Int}{a t:List (Int×Int)}(o:Sm m a)(h:Trn m a t):(a.map (vt 0 m)).sum+(t.map (vt 0 m)).sum=m:=by
 have h0:=o.m0;rw[cut_eq o.c h0,cut_eq h.1 h0];have e:cI (yf t) 0 m.toNat=cI (λx=>!yf a x) 0 m.toNat:=v7 λx h1 h2=>by
  rw[Bool.eq_iff_iff,sil_iff,h.2 x];simp only[Bool.not_eq_true'];constructor
  ·rintro ⟨_,z⟩
   cases e:yf a x with
   |false=>rfl
   |true=>exact absurd (sil_iff.mp e) z
  ·intro z;refine⟨by omega,λy=>?_⟩;rw[sil_iff.mpr y]at z
   cases z
 rw[e];have:=zn8 (yf a) 0 m.toNat;omega
theorem zqn{m:Int}{a b e f:List (Int×Int)}(h0:0<=m)(ca:Cn a)(cb:Cn b)(ce:Cn e)(cf:Cn f)(he:∀x,Mm e x↔Mm a x\/Mm b x)(hf:∀x,Mm f x↔Mm a x/\Mm b x):(e.map (vt 0 m)).sum+(f.map (vt 0 m)).sum=(a.map (vt 0 m)).sum+(b.map (vt 0 m)).sum:=by
 have e1:cI (yf e) 0 m.toNat=cI (λx=>yf a x || yf b x) 0 m.toNat:=v7 λx _ _=>by rw[Bool.eq_iff_iff,sil_iff,he x,Bool.or_eq_true,sil_iff,sil_iff]
 have e2:cI (yf f) 0 m.toNat=cI (λx=>yf a x && yf b x) 0 m.toNat:=v7 λx _ _=>by rw[Bool.eq_iff_iff,sil_iff,hf x,Bool.and_eq_true,sil_iff,sil_iff]
 rw[cut_eq ca h0,cut_eq cb h0,cut_eq ce h0,cut_eq cf h0,e1,e2];exact zrl _ _ _ _
theorem Sm.sh{m:Int}{s:List (Int×Int)}(h:Sm m s):Sh (.tuple (s.map pD)) (13 *(89+2)+3) 2 :=
 Sh.tup (n:=89) (k:=1) (m:=13) (λd hd=>by
  obtain⟨r,hr,rfl⟩:=List.mem_map.mp hd;have:=h.ok.le r hr;exact zko (by omega) (by omega) (by omega) (by omega)) (by rw[List.length_map];exact h.ok.ln)
def qk:DSp:=λws Q=>∃(a b:List (Int×Int)) (m:Int),ws = [.val (.tuple (a.map pD)),.val (.tuple (b.map pD)),.val (.int m)]/\Sm m a/\Sm m b/\Q (.val (.bool true))
theorem za7(B:Blt mg)(F:Fun K "_law_two_right" "_law_two_right" yq f fd)(C_silent_many:Cal P w K mg base 1 "silent_many" ["story", "first", "last"] (z4 K wu))(C_either:Cal P w K mg base 2 "either" ["one", "other"] (z4 K ze0))(C_both:Cal P w K mg base 2 "both" ["one", "other"] (z4 K zku))(C_other_way:Cal P w K mg base 2 "other_way" ["story", "beat"] (z4 K za1)):FnOk P w K mg base CX0 3 f fd ["_law_one", "_law_other", "_law_most"] (z4 K qk):=by
 refine F.dok sc__law_two_right (λws Q h=>?_) (λcdv A outer s H ws Q E hr h=>?_)
 ·obtain⟨a,b,m,rfl,_⟩:=h;rfl
 obtain⟨a,b,m,rfl,oa,ob,q⟩:=h;refine⟨_,(zf (zg4 (i:=3) sc__law_two_right.nd rfl (Or.inl rfl) rfl (N':=["_law_story", "_law_most"]) (capt:=["_law_most"]) (k:=1) (js:=[2]) ⟨rfl,by decide,rfl,by decide,(.cons rfl .nil),rfl,(.cons rfl (Or.inl rfl) rfl (Or.inl rfl) .nil),rfl,by decide⟩ (x8 (DE.dv (xj (zk (ya 0) (zk (ya 1) ye))))) (λ_ _ _ _=>(zp (i:=0) (show List.Nodup (["_law_story", "_law_most"]:List Str) by decide +kernel) rfl (Or.inl rfl) (Or.inr rfl))) (λ_ _ _ _=>wc) (λ_ _ _ _=>(zj C_other_way hr rfl (zm 0 (zm 1 zl))))) (zf (yr (yc (j6 hr) (DE.dv (DF.de (v5 rfl (N':=["_law_story", "_law_most"]) (capt:=["_law_most"]) (k:=1) (js:=[2]) ⟨rfl,by decide,rfl,by decide,(.cons rfl .nil),rfl,(.cons rfl (Or.inl rfl) rfl (Or.inl rfl) .nil),rfl,by decide⟩ (x8 (zd 3)) (λ_ _ _ _=>(zp (i:=0) (show List.Nodup (["_law_story", "_law_most"]:List Str) by decide +kernel) rfl (Or.inl rfl) (Or.inr rfl))) (λ_ _ _ _=>wc) (λ_ _ _ _=>(zj C_other_way hr rfl (zm 0 (zm 1 zl))))))) (DE.dv (DF.de (vc (zk (ya 0) (zk (ya 1) ye))))) (zy _)) (ze (zq xa)) z3) (zf (yr (yc (j6 hr) (DE.dv (zj C_other_way hr rfl (yb (zj C_either hr rfl (zm 0 (zm 1 zl))) (zm 2 zl)))) (DE.dv (zj C_both hr rfl (yb (yz (zd 3) zg (λ_ _=>rfl)) (yb (yz (zd 3) zg (λ_ _=>rfl)) zl)))) (zy _)) (ze (zq xa)) z3) (zf (yr (yc (j6 hr) (DE.dv (zj C_other_way hr rfl (yb (zj C_both hr rfl (zm 0 (zm 1 zl))) (zm 2 zl)))) (DE.dv (zj C_either hr rfl (yb (yz (zd 3) zg (λ_ _=>rfl)) (yb (yz (zd 3) zg (λ_ _=>rfl)) zl)))) (zy _)) (ze (zq xa)) z3) (zf (yr (yc (j6 hr) (DE.dv (yg wj (DE.dv (zj C_silent_many hr rfl (zm 0 (yb zg (zm 2 zl) vx)))) (DE.dv (zj C_silent_many hr rfl (yb (yz (zd 3) zg (λ_ _=>rfl)) (yb zg (zm 2 zl) vx)))))) (zd 2) (zy _)) (ze (zq xa)) z3) (zf (xi (i:=4) sc__law_two_right.nd rfl (Or.inl rfl) (yg wj (DE.dv (zj C_silent_many hr rfl (yb (zj C_either hr rfl (zm 0 (zm 1 zl))) (yb zg (zm 2 zl) vx)))) (DE.dv (zj C_silent_many hr rfl (yb (zj C_both hr rfl (zm 0 (zm 1 zl))) (yb zg (zm 2 zl) vx)))))) (ze (zq (ve (zcz hr) (zd 4) (DE.dv (yg wj (DE.dv (zj C_silent_many hr rfl (zm 0 (yb zg (zm 2 zl) vx)))) (DE.dv (zj C_silent_many hr rfl (zm 1 (yb zg (zm 2 zl) vx)))))) (zy _)))))))))),?_⟩
 refine y9 (λσ=>∃ta tb:List (Int×Int),Trn m a ta/\Trn m b tb/\σ = [some (.val (.tuple (a.map pD))),some (.val (.tuple (b.map pD))),some (.val (.int m)),some (.val (.list [.tuple (ta.map pD),.tuple (tb.map pD)])),none]) (λN hN=>?_) ?_
 ·walk_at "ds";rw[lcD];walk_at "ds";refine⟨a,m,rfl,oa.ok,λta ca la ha=>?_⟩;walk_at "ds";rw[lcD];walk_at "ds";refine⟨b,m,rfl,ob.ok,λtb cb lb hb=>?_⟩;walk_at "ds";rw[lcD];exact hN _ ⟨ta,tb,⟨ca,ha⟩,⟨cb,hb⟩,rfl⟩
 rintro σ ⟨ta,tb,ha,hb,rfl⟩;have ota:=ha.sm oa;have otb:=hb.sm ob;have lya:=oa.lay;have lyb:=ob.lay;have hcm:∀x:Int,∀A B:Prop,(((0<=x/\x<m)/\¬ (A\/B))↔(((0<=x/\x<m)/\¬ A)/\((0<=x/\x<m)/\¬ B))):=λx A B=>⟨λh=>⟨⟨h.1,λz=>h.2 (.inl z)⟩,h.1,λz=>h.2 (.inr z)⟩,λh=>⟨h.1.1,λz=>z.elim h.1.2 h.2.2⟩⟩
 refine y9 (λσ=>σ = [some (.val (.tuple (a.map pD))),some (.val (.tuple (b.map pD))),some (.val (.int m)),some (.val (.list [.tuple (ta.map pD),.tuple (tb.map pD)])),none]) (λN hN=>?_) ?_
 ·walk_at "ds";rw[lcD];walk_at "ds";refine⟨ta,m,rfl,ota.ok,λua ca la hua=>?_⟩;walk_at "ds";rw[lcD];walk_at "ds";refine⟨tb,m,rfl,otb.ok,λub cb lb hub=>?_⟩;walk_at "ds";rw[lcD]
  have ea:ua=a:=jt ca oa.c λx=>by
   rw[hua x,ha.2 x];exact⟨λh=>Classical.not_not.mp λz=>h.2 ⟨h.1,z⟩,λh=>⟨oa.mm h,λz=>z.2 h⟩⟩
  have eb:ub=b:=jt cb ob.c λx=>by
   rw[hub x,hb.2 x];exact⟨λh=>Classical.not_not.mp λz=>h.2 ⟨h.1,z⟩,λh=>⟨ob.mm h,λz=>z.2 h⟩⟩
  subst ea eb;walk_at "ds";exact zab ((Sh.lst (zan oa.sh (zan ob.sh znh)) (Nat.le_refl 2)).lay (by decide)) rfl (hN _ rfl)
 rintro σ rfl;have sme:∀e,Cn e->(∀x,Mm e x↔Mm a x\/Mm b x)->Sm m e:=λe ce he=>Sm.of oa.m0 oa.m1 ce λx hx=>((he x).mp hx).elim oa.mm ob.mm;have smf:∀e,Cn e->(∀x,Mm e x↔Mm a x/\Mm b x)->Sm m e:=λe ce he=>Sm.of oa.m0 oa.m1 ce λx hx=>oa.mm ((he x).mp hx).1;refine y9 (λσ=>σ = [some (.val (.tuple (a.map pD))),some (.val (.tuple (b.map pD))),some (.val (.int m)),some (.val (.list [.tuple (ta.map pD),.tuple (tb.map pD)])),none]) (λN hN=>?_) ?_
 ·walk_at "ds";refine⟨a,b,rfl,oa.ok,ob.ok,λe ce le he=>?_⟩;walk_at "ds";refine⟨e,m,rfl,(sme e ce he).ok,λw cw lw hw=>?_⟩;walk_at "ds";refine⟨_,x5 _ _,_,we _ _ _,?_⟩;walk_at "ds";refine⟨ta,tb,rfl,ota.ok,otb.ok,λz cz lz hz=>?_⟩
  have ez:w=z:=jt cw cz λx=>by
   rw[hw x,hz x,he x,ha.2 x,hb.2 x];exact hcm x _ _
  subst ez;have smw:Sm m w:=Sm.of oa.m0 oa.m1 cw λx hx=>((hw x).mp hx).1;walk_at "ds";exact zab smw.lay rfl (hN _ rfl)
 rintro σ rfl;refine y9 (λσ=>σ = [some (.val (.tuple (a.map pD))),some (.val (.tuple (b.map pD))),some (.val (.int m)),some (.val (.list [.tuple (ta.map pD),.tuple (tb.map pD)])),none]) (λN hN=>?_) ?_
 ·walk_at "ds";refine⟨a,b,rfl,oa.ok,ob.ok,λe ce le he=>?_⟩;walk_at "ds";refine⟨e,m,rfl,(smf e ce he).ok,λw cw lw hw=>?_⟩;walk_at "ds";refine⟨_,x5 _ _,_,we _ _ _,?_⟩;walk_at "ds";refine⟨ta,tb,rfl,ota.ok,otb.ok,λz cz lz hz=>?_⟩
  have ez:w=z:=jt cw cz λx=>by
   rw[hw x,hz x,he x,ha.2 x,hb.2 x];constructor
   ·rintro ⟨h1,h2⟩
    by_cases y:Mm a x
    ·exact .inr ⟨h1,λz=>h2 ⟨y,z⟩⟩
    ·exact .inl ⟨h1,y⟩
   ·rintro (⟨h1,h2⟩ |⟨h1,h2⟩)
    ·exact⟨h1,λz=>h2 z.1⟩
    ·exact⟨h1,λz=>h2 z.2⟩
  subst ez;have smw:Sm m w:=Sm.of oa.m0 oa.m1 cw λx hx=>((hw x).mp hx).1;walk_at "ds";exact zab smw.lay rfl (hN _ rfl)
 rintro σ rfl;have la:=oa.ln;have lb:=ob.ln;have lta:=ota.ln;refine y9 (λσ=>σ = [some (.val (.tuple (a.map pD))),some (.val (.tuple (b.map pD))),some (.val (.int m)),some (.val (.list [.tuple (ta.map pD),.tuple (tb.map pD)])),none]) (λN hN=>?_) ?_
 ·walk_at "ds";refine⟨a,0,m,rfl,by omega,?_⟩;walk_at "ds";refine⟨_,x5 _ _,?_⟩;walk_at "ds";refine⟨ta,0,m,rfl,by omega,?_⟩;walk_at "ds";rw[if_neg (not_not_intro (zqm oa ha))];exact hN _ rfl
 rintro σ rfl;walk_at "ds";refine⟨a,b,rfl,oa.ok,ob.ok,λe ce le he=>?_⟩;walk_at "ds";refine⟨e,0,m,rfl,by omega,?_⟩;walk_at "ds";refine⟨a,b,rfl,oa.ok,ob.ok,λf cf lf hf=>?_⟩;walk_at "ds";refine⟨f,0,m,rfl,by omega,?_⟩;walk_at "ds";refine⟨a,0,m,rfl,by omega,?_⟩;walk_at "ds";refine⟨b,0,m,rfl,by omega,?_⟩;have:=zqn oa.m0 oa.c ob.c ce cf he hf;walk_at "ds";rw[decide_eq_true this];exact q
end
section
variable {P:Program}{w:World}{K:PySem.W.Frag}{mg:Str->Option Value}{base:Heap}{f:Addr}{fd:FuncData}
theorem zok:∀{s:List (Int×Int)}{h:Int},Cn s->(∀r∈s,h<r.1/\0<=r.1/\r.2<=1000000)->za2 h (s.map λr=>[r.1,r.2])=true
 |[],_,_,_=>rfl
 |r::s,h,c,b=>by
  have h1:=b r List.mem_cons_self;have h2:=c.head;show(zb2 [r.1,r.2] && !decide (r.1<=h) && za2 r.2 (s.map λr=>[r.1,r.2]))=true;rw[zok c.tail λq hq=>⟨h2.2 q hq,(b q (List.mem_cons_of_mem _ hq)).2⟩,show zb2 [r.1,r.2]=true by simp only[zb2,Bool.and_eq_true,decide_eq_true_eq];omega,decide_eq_false (by omega)];rfl
def mkD(s:List (Int×Int))(n:Nat):List D:=(List.range n).map λi:Nat=>PyData.bool (yf s (i:Int))
theorem zol(s:List (Int×Int))(n:Nat):mkD s n=((List.range n).map λi:Nat=>yf s (i:Int)).map PyData.bool:=by
 unfold mkD;rw[List.map_map];rfl
def bsI(s:List (Int×Int))(n:Nat):List Int:=((List.range n).filter λi:Nat=>yf s (i:Int)).map λi:Nat=>(i:Int)
theorem zom{s:List (Int×Int)}{n:Nat}(o:Sm n s)(x:Int):x∈bsI s n↔Mm s x:=by
 unfold bsI;rw[List.mem_map];constructor
 ·rintro ⟨i,hi,rfl⟩;exact sil_iff.mp (List.mem_filter.mp hi).2
 ·intro h;have:=o.mm h;exact⟨x.toNat,List.mem_filter.mpr ⟨List.mem_range.mpr (by omega),by rw[show((x.toNat:Nat):Int)=x by omega];exact sil_iff.mpr h⟩,by omega⟩
theorem zv3(s:List (Int×Int))(rs:List Nat):rs.filterMap (λi:Nat=>if yf s (i:Int)=true then some (PyData.int (i:Int)) else none)=((rs.filter λi:Nat=>yf s (i:Int)).map λi:Nat=>(i:Int)).map PyData.int:=by
 induction rs with
 |nil=>rfl
 |cons x xs ih=>
  rw[List.filterMap_cons,List.filter_cons]
  cases z:yf s (x:Int) with
  |true=>simp only[if_true,List.map_cons];rw[ih]
  |false=>simp only[Bool.false_eq_true,if_false];rw[ih]
def qm:DSp:=λws Q=>∃NN n:Nat,ws = [.val (.tuple ((stN NN 25).map pD)),.val (.int n)]/\NN<2 ^ n/\n<=24/\Q (.val (.bool true))
theorem za8(B:Blt mg){T:Addr}(F:Fun K "_law_one_right" "_law_one_right" yp f fd)(C_story_good:Cal P w K mg base 3 "story_good" ["thing"] (z4 K j0))(C_story_of:Cal P w K mg base 3 "story_of" ["things"] (z4 K zb4))(C_silent_at:Cal P w K mg base 1 "silent_at" ["story", "beat"] (z4 K vr))(C_healed_at:Cal P w K mg base 1 "healed_at" ["story"] (z4 K ko))(C_next_sound:Cal P w K mg base 1 "next_sound" ["story", "beat"] (z4 K jy))(C_next_silent:Cal P w K mg base 1 "next_silent" ["story", "beat"] (z4 K jk))(C_silent_many:Cal P w K mg base 1 "silent_many" ["story", "first", "last"] (z4 K wu))(C_longest_of:Cal P w K mg base 4 "longest_of" ["story"] (qf "longest_of.<locals>.<lambda>" T (z4 K jz)))(C_story_at:Cal P w K mg base 3 "story_at" ["number", "n"] (z4 K qi))(C_number_of:Cal P w K mg base 1 "number_of" ["story"] (z4 K zaz))(C__law_marks:Cal P w K mg base 2 "_law_marks" ["_law_story", "_law_most"] (z4 K qw)):FnOk P w K mg base CX0 5 f fd ["_law_story", "_law_most"] (qf "longest_of.<locals>.<lambda>" T (z4 K qm)):=by
 refine F.dokT sc__law_one_right (λws Q h=>?_) (λA outer s H ws Q E hr hT h=>?_)
 ·obtain⟨a,b,rfl,_⟩:=h;rfl
 obtain⟨NN,n,rfl,hNN,hn,q⟩:=h;have o:=zhz hNN hn;have smm:=zoj hNN hn;refine⟨_,(zf (xi (i:=2) sc__law_one_right.nd rfl (Or.inr rfl) (zj C__law_marks hr rfl (zm 0 (zm 1 zl)))) (zf (yr (DWt.dt (w4 (yc ztn (DE.dv (zj C_story_good hr rfl (zm 0 zl))) (DE.dv xa) (zy _)) (wk (yc (j6 hr) (DE.dv (zj C_story_of hr rfl (yb (DF.de (v5 rfl (N':=["_law_beat", "_law_marks_here"]) (capt:=["_law_marks_here"]) (k:=1) (js:=[2]) ⟨rfl,by decide,rfl,by decide,(.cons rfl .nil),rfl,(.cons rfl (Or.inl rfl) rfl (Or.inl rfl) .nil),rfl,by decide⟩ (DI.w (vv rfl B.range (zk (ya 1) ye))) (λ_ _ _ _=>(zp (i:=0) (show List.Nodup (["_law_beat", "_law_marks_here"]:List Str) by decide +kernel) rfl (Or.inl rfl) (Or.inr rfl))) (λ_ _ _ _=>(jn (y0 (DE.dv (yz (zd 1) (ya 0) (λ_ _=>rfl)))))) (λ_ _ _ _=>(ya 0)))) zl))) (zd 0) (zy _))))) (ze (zq xa)) z3) (zf (yr (DWt.dt (w4 (yc (j6 hr) (DE.dv (zj C_story_at hr rfl (yb (zj C_number_of hr rfl (zm 0 zl)) (zm 1 zl)))) (zd 0) (zy _)) (wk (yc zb7 (DE.dv (zj C_healed_at hr rfl (zm 0 zl))) (zd 1) (zy _))))) (ze (zq xa)) z3) (zf (yr (DWt.dt (w4 (yc (j6 hr) (DE.dv (zj C_silent_many hr rfl (zm 0 (yb zg (zm 1 zl) vx)))) (DE.dv (zbo (zd 2) xa)) (zy _)) (wk (yc (j6 hr) (DE.dv (zj C_silent_many hr rfl (zm 0 (yb zg (yb (yg zq4 (DE.dv zg) (DE.dv zg)) zl) vx)))) (DE.dv (zbo (zd 2) xa)) (zy _))))) (ze (zq xa)) z3) (zf (wo PassesOwn.never rfl (vv rfl B.range (zk (ya 1) ye)) (zp (i:=3) sc__law_one_right.nd rfl (Or.inl rfl)) (zf (zte (i:=4) (j:=5) rfl sc__law_one_right.nd rfl rfl (by decide) rfl rfl (zk (zj C_next_sound hr rfl (zm 0 (zm 3 zl))) (zk (zj C_next_silent hr rfl (zm 0 (zm 3 zl))) ye)) rfl) (zf (yr (DWt.dt (w4 (yc (j6 hr) (DE.dv (zj C_silent_many hr rfl (zm 0 (zm 3 (zm 4 zl))))) (DE.dv (yg vz (zd 4) (zd 3))) (zy _)) (wk (y0 (DE.dv (zj C_silent_at hr rfl (zm 0 (zm 4 zl)))))))) (ze (zq xa)) z3) (zf (yr (DWt.dt (zcy (yc zsy (zd 5) (DE.dv zcx) (zy _)) (zaj (DWt.dt (w4 (xk (y0 (DE.dv (zj C_silent_at hr rfl (zm 0 (zm 5 zl)))))) (wk (yc (j6 hr) (DE.dv (zj C_silent_many hr rfl (zm 0 (zm 3 (zm 5 zl))))) (DE.dv zg) (zy _)))))))) (ze (zq xa)) z3) (ze (yr (DWt.dt (zcy (yc zq6 (zd 5) (DE.dv zcx) (zy _)) (zaj (DWt.dt (w4 (yc zb7 (DE.dv (zj C_healed_at hr rfl (zm 0 zl))) (zd 3) (zy _)) (wk (yc (j6 hr) (DE.dv (zj C_silent_many hr rfl (zm 0 (zm 3 (zm 1 zl))))) (DE.dv zg) (zy _)))))))) (ze (zq xa)) z3)))))) (zf (xi (i:=6) sc__law_one_right.nd rfl (Or.inl rfl) (zde C_longest_of hT hr rfl (zm 0 zl))) (zf (yr (yc zq6 (zd 6) (DE.dv zcx) (zy _)) (ze (zq (j5 (ve (zcz hr) (zd 0) (DE.dv (xj ye)) (zy _)) (zbc (ve (zcz hr) (DE.dv (zbo (zd 2) xa)) (DE.dv zg) (zy _)))))) z3) (ze (zq (j5 (ve (zvd hr) (zd 6) (zd 0) rfl) (zbc (ve (zcz hr) (DE.dv (ym (zth rfl) rfl B.max boot_max (zn (DE.dv (DF.de (v5 rfl (N':=["_law_begin", "_law_end"]) (capt:=[]) (k:=2) (js:=[]) ⟨rfl,by decide,rfl,by decide,.nil,rfl,.nil,rfl,by decide⟩ (x8 (zd 0)) (λ_ _ _ _=>(xv (n:=2) rfl (zv (zp (i:=0) (show List.Nodup (["_law_begin", "_law_end"]:List Str) by decide +kernel) rfl (Or.inl rfl) (Or.inr rfl)) (zv (zp (i:=1) (show List.Nodup (["_law_begin", "_law_end"]:List Str) by decide +kernel) rfl (Or.inl rfl) (Or.inr rfl)) y1)))) (λ_ _ _ _=>wc) (λ_ _ _ _=>(yg vz (zd 1) (zd 0)))))) z7))) (DE.dv (yg vz (DE.dv (yz (zd 6) zg (λ_ _=>rfl))) (DE.dv (yz (zd 6) zg (λ_ _=>rfl))))) (zy _))))))))))))),?_⟩
 generalize hs:stN NN 25=s at o smm;have ln:=o.ln;have ly:=o.lay;have hc:(s.map (vt 0 n)).sum=(((List.range n).map λi:Nat=>yf s (i:Int)).count true:Int):=by
  rw[zht (yf s) n,cut_eq o.c (by omega),Int.toNat_natCast]
 refine y9 (λσ=>σ = [some (.val (.tuple (s.map pD))),some (.val (.int n)),some (.val (.list (mkD s n))),none,none,none,none]) (λN hN=>?_) ?_
 ·walk_at "ds";refine⟨s,n,rfl,by omega,by omega,?_⟩;exact hN _ rfl
 rintro σ rfl;refine y9 (λσ=>σ = [some (.val (.tuple (s.map pD))),some (.val (.int n)),some (.val (.list (mkD s n))),none,none,none,none]) (λN hN=>?_) ?_
 ·walk_at "ds";refine⟨s.map λr=>[r.1,r.2],by rw[List.map_map];rfl,?_⟩;rw[zok o.c λr hr=>by have:=o.b r hr;have:=o.m1;omega,List.length_map,decide_eq_true (by omega)];walk_at "ds";rw[if_neg (by decide),zaa];refine⟨by omega,by omega,?_⟩;unfold wa;refine ki (λi:Nat=>PyData.int (0+(i:Nat))) (λi:Nat=>if yf s (i:Int)=true then some (PyData.int (i:Int)) else none) (λi hi k hk=>?_) ?_
  ·have hi2:=List.mem_range.mp hi;rw[Int.toNat_natCast]at hi2;walk_at "ds";rw[Int.zero_add];refine⟨.bool (yf s (i:Int)),zci (by unfold mkD;rw[List.getElem?_map,List.getElem?_range hi2];rfl),?_⟩
   cases e:yf s (i:Int) with
   |true=>rw[e,if_pos rfl]at hk;exact hk
   |false=>rw[e,if_neg (by decide)]at hk;exact hk
  ·rw[Int.toNat_natCast,zv3 s (List.range n)];refine⟨bsI s n,rfl,?_,λx hx=>?_,λms pw hm lm=>?_⟩
   ·unfold bsI;rw[List.length_map];have:=List.length_filter_le (λi:Nat=>yf s (i:Int)) (List.range n);rw[List.length_range]at this;omega
   ·have:=(zom o x).mp hx;have:=o.mm this;omega
   ·obtain⟨fc,fm⟩:=zgl ms pw;rw[jt fc o.c λx=>(fm x).trans ((hm x).trans (zom o x))];walk_at "ds";exact zab ly rfl (hN _ rfl)
 rintro σ rfl;refine y9 (λσ=>σ = [some (.val (.tuple (s.map pD))),some (.val (.int n)),some (.val (.list (mkD s n))),none,none,none,none]) (λN hN=>?_) ?_
 ·walk_at "ds";refine⟨NN,by rw[hs],Nat.lt_of_lt_of_le hNN (Nat.pow_le_pow_right (by decide) (by omega)),?_⟩;walk_at "ds";refine⟨NN,n,rfl,by omega,hNN,?_⟩;rw[hs];walk_at "ds";refine zab ly rfl ⟨s,.inl rfl,?_⟩;walk_at "ds";rw[if_neg (by have:=zks (s:=s) (m:=n) (by omega) (λr hr=>(o.b r hr).2);omega)];exact hN _ rfl
 rintro σ rfl;refine y9 (λσ=>σ = [some (.val (.tuple (s.map pD))),some (.val (.int n)),some (.val (.list (mkD s n))),none,none,none,none]) (λN hN=>?_) ?_
 ·walk_at "ds";refine⟨s,0,n,rfl,by omega,?_⟩;walk_at "ds";refine⟨(List.range n).map λi:Nat=>yf s (i:Int),zol s n,?_⟩;rw[if_neg (not_not_intro hc)];refine⟨by unfold zk4;decide,s,0,_,rfl,by omega,?_⟩;walk_at "ds";refine⟨(List.range n).map λi:Nat=>yf s (i:Int),zol s n,?_⟩;rw[if_neg (not_not_intro ((zp9 (m:=n) (λr hr=>(o.b r hr).2) (by show(n:Int)<=10 ^ 6;omega)).trans hc))];exact hN _ rfl
 rintro σ rfl;refine y9 (λσ=>∃u3 u4 u5:Option W,σ = [some (.val (.tuple (s.map pD))),some (.val (.int n)),some (.val (.list (mkD s n))),u3,u4,u5,none]) (λN hN=>?_) ?_
 ·walk_at "ds";refine⟨by omega,?_⟩;refine zg6 (λσ=>∃u3 u4 u5:Option W,σ = [some (.val (.tuple (s.map pD))),some (.val (.int n)),some (.val (.list (mkD s n))),u3,u4,u5,none]) ⟨none,none,none,rfl⟩ ?_ ?_
  ·rintro d hd σ N2 ⟨u3,u4,u5,rfl⟩ k2
   have hb:∃b:Int,0<=b/\b<n/\d=.int b:=by
    unfold wa at hd;obtain⟨i,hi,rfl⟩:=List.mem_map.mp hd;have:=List.mem_range.mp hi;exact⟨0+(i:Nat),by omega,by omega,rfl⟩
   obtain⟨b,b0,b1,rfl⟩:=hb;obtain⟨n1,n2,n3⟩:=zt3 o.c b;have cs:(s.map (vt b (zay s b))).sum=zay s b-b:=by
    rw[zgf o.c n1,v7 (g:=λ_=>true) λx h1 h2=>n3 x h1 (by omega),zn7];omega
   have dn:∀b':Int,b<=b'->(∀x,b<=x->x<b'->yf s x=false)->(s.map (vt b b')).sum=0:=λb' h1 h2=>by
    rw[zgf o.c h1,v7 (g:=λ_=>false) λx h3 h4=>h2 x h3 (by omega),zkq]
   simp only[zfn,List.set_cons_succ,List.set_cons_zero];refine y9 (λσ=>σ = [some (.val (.tuple (s.map pD))),some (.val (.int n)),some (.val (.list (mkD s n))),some (.val (.int b)),some (.val (.int (zay s b))),some (.val (zl4 (zdt s b))),none]) (λN hN=>?_) ?_
   ·walk_at "ds";refine⟨s,b,rfl,?_⟩;walk_at "ds";refine⟨s,b,rfl,?_⟩;walk_at "ds";exact hN _ rfl
   rintro σ rfl;refine y9 (λσ=>σ = [some (.val (.tuple (s.map pD))),some (.val (.int n)),some (.val (.list (mkD s n))),some (.val (.int b)),some (.val (.int (zay s b))),some (.val (zl4 (zdt s b))),none]) (λN hN=>?_) ?_
   ·walk_at "ds";refine⟨s,b,_,rfl,by omega,?_⟩;walk_at "ds";rw[if_neg (not_not_intro cs)];refine⟨s,_,rfl,by omega,?_⟩;rw[n2];walk_at "ds";exact hN _ rfl
   rintro σ rfl
   cases e:zdt s b with
   |none=>
    have none':=zoc e;simp only[zl4];walk_at "ds";refine⟨s,.inl rfl,?_⟩;walk_at "ds";rw[if_neg (by have:=zks (s:=s) (m:=b) b0 none';omega)];refine⟨s,b,_,rfl,by omega,?_⟩;walk_at "ds";rw[if_neg (not_not_intro (dn n (by omega) λx h1 h2=>by
     cases e2:yf s x with
     |false=>rfl
     |true=>
      obtain⟨r,hr,h3,h4⟩:=sil_iff.mp e2;have:=none' r hr;omega))]
    exact k2 _ ⟨_,_,_,rfl⟩
   |some v=>
    obtain⟨v1,v2,v3⟩:=zod o.c e;simp only[zl4];walk_at "ds";refine⟨s,v,rfl,by omega,?_⟩;rw[v2];walk_at "ds";refine⟨s,b,v,rfl,by omega,?_⟩;walk_at "ds";rw[if_neg (not_not_intro (dn v v1 v3))];exact k2 _ ⟨_,_,_,rfl⟩
  ·rintro σ ⟨u3,u4,u5,rfl⟩;exact hN _ ⟨_,_,_,rfl⟩
 rintro σ ⟨u3,u4,u5,rfl⟩;refine y9 (λσ=>∃d:D,((s = []/\d=.none)\/∃r,zvu s r/\d=pD r)/\σ = [some (.val (.tuple (s.map pD))),some (.val (.int n)),some (.val (.list (mkD s n))),u3,u4,u5,some (.val d)]) (λN hN=>?_) ?_
 ·walk_at "ds";refine⟨s,rfl,λe=>?_,λr hr=>?_⟩
  ·exact hN _ ⟨_,.inl ⟨e,rfl⟩,rfl⟩
  ·exact hN _ ⟨_,.inr ⟨r,hr,rfl⟩,rfl⟩
 rintro σ ⟨d,hd,rfl⟩;rcases hd with⟨es,rfl⟩ |⟨r,hr,rfl⟩
 ·walk_at "ds";subst es;have ly0:Lay (.tuple []):=ly;refine⟨ly,ly,?_⟩;rw[List.map_nil,if_pos (jd ly0)];refine⟨(List.range n).map λi:Nat=>yf [] (i:Int),zol [] n,?_⟩;rw[decide_eq_true (by rw[<-hc];rfl)];exact q
 ·simp only[pD];walk_at "ds";obtain⟨i,ei,hi⟩:=hr;have hrs:r∈s:=List.mem_of_getElem? ei;have lr:Lay (pD r):=zlj [r.1,r.2];refine⟨lr,ly,?_⟩;have hin:inD (PyData.tuple [PyData.int r.fst,PyData.int r.snd]) (s.map pD)=true:=List.any_eq_true.mpr ⟨pD r,List.mem_map_of_mem hrs,jd lr⟩;rw[if_pos hin];refine⟨by rw[List.length_map];omega,va pD (λx=>.int (x.2-x.1)) (λx hx k hk=>?_) ?_⟩
  ·simp only[pD];walk_at "ds";exact hk
  ·refine⟨s.map λx=>x.2-x.1,?_,?_,λm hm hmx=>?_⟩
   ·have:=zbd (s.map λx=>x.2-x.1);rw[List.map_map]at this;exact this
   ·rw[List.length_map];exact List.length_pos_of_mem hrs
   ·have e:m=r.2-r.1:=by
     obtain⟨x,hx,rfl⟩:=List.mem_map.mp hm;obtain⟨j,hj⟩:=List.getElem?_of_mem hx;have h1:=(hi j x hj).1;have h2:=hmx (r.2-r.1) (List.mem_map.mpr ⟨r,hrs,rfl⟩);omega
    refine⟨_,we _ _ _,_,x5 _ _,?_⟩;walk_at "ds";rw[decide_eq_true e];exact q
end
section
variable {P:Program}{w:World}{K:PySem.W.Frag}{mg:Str->Option Value}{base:Heap}{f:Addr}{fd:FuncData}
theorem zon:∀n k:Nat,ch n k<=2 ^ n
 |n,0=>by rw[qh];exact Nat.one_le_two_pow
 |0,k+1=>Nat.zero_le _
 |n+1,k+1=>by
  have h1:=zon n k;have h2:=zon n (k+1);simp only[ch];rw[Nat.pow_succ];omega
theorem zky(N:Nat):∀n:Nat,cI (λx=>bt N x.toNat) 0 n=(pcn N n:Int)
 |0=>rfl
 |n+1=>by
  have:=zky N n;rw[cI,this,pcn,Int.zero_add,Int.toNat_natCast]
  split <;> simp
theorem zua{N n:Nat}(h:N<2 ^ n)(hn:n<=24):((stN N 25).map (vt 0 n)).sum=(pc N:Int):=by
 have o:=zhz h hn;rw[cut_eq o.c (by omega),Int.toNat_natCast,zkp h (by omega),<-zky];refine v7 λx h1 h2=>?_;rw[Bool.eq_iff_iff,sil_iff,zoj h hn x];exact⟨λz=>z.2.2,λz=>⟨h1,by omega,z⟩⟩
def shf(b:Int)(r:Int×Int):Int×Int:=(r.1+b,r.2+b)
theorem zoo{s:List (Int×Int)}{b:Int}(h:∀r∈s,0<=r.1/\r.1<r.2)(hb:0<=b):mvL b s=s.map (shf b):=by
 unfold mvL
 induction s with
 |nil=>rfl
 |cons r s ih=>
  have h1:=h r List.mem_cons_self;rw[List.filterMap_cons,List.map_cons,ih λq hq=>h q (List.mem_cons_of_mem _ hq)];unfold mvR;rw[if_pos (by omega)];simp only[shf];rw[show max 0 (r.1+b)=r.1+b by omega]
theorem zqo{s:List (Int×Int)}{b:Int}(h:∀r∈s,0<=r.1/\r.1<r.2):mvL (0-b) (s.map (shf b))=s:=by
 unfold mvL
 induction s with
 |nil=>rfl
 |cons r s ih=>
  have h1:=h r List.mem_cons_self;rw[List.map_cons,List.filterMap_cons,ih λq hq=>h q (List.mem_cons_of_mem _ hq)];have e:mvR (0-b) (shf b r)=some r:=by
   unfold mvR;rw[if_pos (by show 0<r.2+b+(0-b);omega)];show some (max 0 (r.1+b+(0-b)),r.2+b+(0-b))=some r;rw[show max 0 (r.1+b+(0-b))=r.1 by omega,show r.2+b+(0-b)=r.2 by omega]
  rw[e]
theorem zub{s:List (Int×Int)}(c:Cn s)(b:Int):Cn (s.map (shf b)):=by
 refine⟨λr hr=>?_,?_⟩
 ·obtain⟨q,hq,rfl⟩:=List.mem_map.mp hr;have:=c.1 q hq;simp only[shf];omega
 ·rw[List.pairwise_map];refine c.2.imp λ{x y} h=>?_;simp only[shf];omega
theorem zkz(s:List (Int×Int))(b x:Int):yf (s.map (shf b)) x=yf s (x-b):=by
 unfold yf;rw[List.any_map];congr 1
 funext r
 simp only[Function.comp,shf];exact decide_eq_decide.mpr (by omega)
theorem zqp(bs:List Bool):Lay (.list (bs.map PyData.bool)):=Lay.list λx hx=>by
 obtain⟨b,_,rfl⟩:=List.mem_map.mp hx;exact⟨Sh.bool.lay (by decide),Nat.zero_le _⟩
theorem zuc{s:List (Int×Int)}{b:Nat}{n:Nat}(h:∀r∈s,0<=r.1):mkD (s.map (shf b)) (b+n)=List.replicate b (PyData.bool false)++mkD s n:=by
 unfold mkD;rw[List.range_add,List.map_append,List.map_map];congr 1
 ·rw[List.eq_replicate_iff];refine⟨by rw[List.length_map,List.length_range],λx hx=>?_⟩;obtain⟨i,hi,rfl⟩:=List.mem_map.mp hx;have hi:=List.mem_range.mp hi;rw[zkz]
  have:yf s ((i:Int)-b)=false:=by
   cases e:yf s ((i:Int)-b) with
   |false=>rfl
   |true=>
    obtain⟨r,hr,h1,h2⟩:=sil_iff.mp e;have:=h r hr;omega
  rw[this]
 ·refine List.map_congr_left λi _=>?_;simp only[Function.comp];rw[zkz,show((b+i:Nat):Int)-b=i by omega]
theorem zh1{α:Type}(x:α):∀b:Nat,(List.replicate b [x]).flatten=List.replicate b x
 |0=>rfl
 |b+1=>by rw[List.replicate_succ,List.flatten_cons,zh1 x b,List.replicate_succ];rfl
theorem zud(B:Blt mg){T:Addr}(F:Fun K "law" "law" kw f fd)(C_silent_many:Cal P w K mg base 1 "silent_many" ["story", "first", "last"] (z4 K wu))(C_later_by:Cal P w K mg base 2 "later_by" ["story", "by"] (z4 K zb1))(C_story_at:Cal P w K mg base 3 "story_at" ["number", "n"] (z4 K qi))(C_stories_with:Cal P w K mg base 4 "stories_with" ["n", "k"] (z4 K ja))(C__law_cell_at:Cal P w K mg base 1 "_law_cell_at" ["_law_script", "_law_k"] (z4 K kx))(C__law_pen_of:Cal P w K mg base 1 "_law_pen_of" ["_law_cell"] (z4 K jg))(C__law_draw:Cal P w K mg base 2 "_law_draw" ["_law_pen", "_law_many"] (z4 K vm))(C__law_marks:Cal P w K mg base 2 "_law_marks" ["_law_story", "_law_most"] (z4 K qw))(C__law_one_right:Cal P w K mg base 5 "_law_one_right" ["_law_story", "_law_most"] (qf "longest_of.<locals>.<lambda>" T (z4 K qm)))(C__law_two_right:Cal P w K mg base 3 "_law_two_right" ["_law_one", "_law_other", "_law_most"] (z4 K qk))(C__law_looks_right:Cal P w K mg base 7 "_law_looks_right" ["_law_story"] (z4 K vk)):FnOk P w K mg base CX0 8 f fd ["_law_script"] (qf "longest_of.<locals>.<lambda>" T (z4 K zdp)):=by
 refine F.dokT sc_law (λws Q h=>?_) (λA outer s H ws Q E hr hT h=>?_)
 ·obtain⟨ns,rfl,_⟩:=h;rfl
 obtain⟨ns,rfl,h63,q⟩:=h;refine⟨_,(zf (wo PassesOwn.never rfl (v4 (yg wj (DE.dv (DF.de (vc (zk (zj C__law_cell_at hr rfl (zm 0 (yb zg zl vx))) ye)))) (DE.dv (DF.de (zs7 0 (zck zg) (zck zg)))))) (zp (i:=1) sc_law.nd rfl (Or.inl rfl)) (zf (zpl (i:=2) sc_law.nd rfl (Or.inr rfl) (zpi C__law_pen_of hr rfl (zm 1 zl))) (zf (zm9 (xj (zk (yg wj (DE.dv zg) (DE.dv (zj C__law_draw hr rfl (zm 2 (yb zg zl vx))))) (zk (zj C__law_draw hr rfl (zm 2 (yb zg zl vx))) ye))) (xv (n:=2) rfl (zv (zp (i:=3) sc_law.nd rfl (Or.inr rfl)) (zv (zp (i:=4) sc_law.nd rfl (Or.inl rfl)) y1)))) (zf (zm9 (DF.de (v5 rfl (N':=["_law_turn", "_law_most", "_law_pen"]) (capt:=["_law_most", "_law_pen"]) (k:=1) (js:=[3,2]) ⟨rfl,by decide,rfl,by decide,(.cons rfl (.cons rfl .nil)),rfl,(.cons rfl (Or.inl rfl) rfl (Or.inl rfl) (.cons rfl (Or.inl rfl) rfl (Or.inl rfl) .nil)),rfl,by decide⟩ (DI.w (vv rfl B.range (zk zg ye vx))) (λ_ _ _ _=>(zp (i:=0) (show List.Nodup (["_law_turn", "_law_most", "_law_pen"]:List Str) by decide +kernel) rfl (Or.inl rfl) (Or.inr rfl))) (λ_ _ _ _=>wc) (λ_ _ _ _=>(zj C_story_at hr rfl (yb (zj C__law_draw hr rfl (zm 2 (yb (yg zgx (DE.dv zg) (zd 1)) zl))) (zm 1 zl)))))) (xv (n:=2) rfl (zv (zp (i:=5) sc_law.nd rfl (Or.inl rfl)) (zv (zp (i:=6) sc_law.nd rfl (Or.inl rfl)) y1)))) (zf (yr (DWt.dt (w4 (xk (y0 (DE.dv (zde C__law_one_right hT hr rfl (zm 5 (zm 3 zl)))))) (w4 (xk (y0 (DE.dv (zde C__law_one_right hT hr rfl (zm 6 (zm 3 zl)))))) (wk (xk (y0 (DE.dv (zj C__law_two_right hr rfl (zm 5 (zm 6 (zm 3 zl))))))))))) (ze (zq xa)) z3) (zf (yr (DWt.dt (w4 (yc (j6 hr) (DE.dv (zj C_later_by hr rfl (yb (zj C_later_by hr rfl (zm 5 (zm 4 zl))) (yb (yg vz (DE.dv zg) (zd 4)) zl)))) (zd 5) (zy _)) (w4 (xk (y0 (DE.dv (zj C__law_looks_right hr rfl (zm 5 zl))))) (wk (xk (y0 (DE.dv (zj C__law_looks_right hr rfl (zm 6 zl))))))))) (ze (zq xa)) z3) (zf (yr (yc (j6 hr) (DE.dv (zj C__law_marks hr rfl (yb (zj C_later_by hr rfl (zm 5 (zm 4 zl))) (yb (yg wj (zd 4) (zd 3)) zl)))) (DE.dv (yg wj (DE.dv (yg zj2 (DE.dv (DF.de (vc (zk xa ye vx)))) (zd 4))) (DE.dv (zj C__law_marks hr rfl (zm 5 (zm 3 zl)))))) (zy _)) (ze (zq xa)) z3) (zf (xi (i:=7) sc_law.nd rfl (Or.inl rfl) (zj C_silent_many hr rfl (zm 5 (yb zg (zm 3 zl) vx)))) (ze (yr (DWt.dt (zcy (yc zfg (zd 3) (DE.dv zg) (zy _)) (zaj (yc (zpf hr) (zd 5) (DE.dv (zj C_stories_with hr rfl (zm 3 (zm 7 zl)))) rfl)))) (ze (zq xa)) z3)))))))))) (ze (zq xa))),?_⟩
 walk_at "ds";refine⟨ns,0,rfl,by decide,λv=>?_⟩;obtain⟨ys,ey,_,hy⟩:=zis PyData.int ns (some 1) (some 4);rw[ey,List.length_map];refine⟨by omega,?_⟩;walk_at "ds";refine zg6 (ds:=(v::ys).map PyData.int) (λσ=>∃(u1 u2 u3 u4 u5 u6 u7:Option W),σ = [some (.scr ns),u1,u2,u3,u4,u5,u6,u7]) ⟨none,none,none,none,none,none,none,rfl⟩ ?_ ?_
 ·rintro d hd σ N ⟨u1,u2,u3,u4,u5,u6,u7,rfl⟩ k;obtain⟨v,_,rfl⟩:=List.mem_map.mp hd;refine y9 (λσ=>σ = [some (.scr ns),some (.val (.int v)),some .pen,u3,u4,u5,u6,u7]) (λN hN=>?_) ?_
  ·walk_at "ds";refine⟨_,rfl,λa b c=>?_⟩;walk_at "ds";exact⟨⟨a,b,c,rfl⟩,hN _ rfl⟩
  rintro σ rfl;refine y9 (λσ=>∃n b:Nat,1<=n/\n<=24/\b<1000/\σ = [some (.scr ns),some (.val (.int v)),some .pen,some (.val (.int n)),some (.val (.int b)),u5,u6,u7]) (λN hN=>?_) ?_
  ·walk_at "ds";refine zj9 (by first|decide|omega) (by first|decide|omega) λx lx hx=>?_;walk_at "ds";refine zj9 (by first|decide|omega) (by first|decide|omega) λy ly hy=>?_;walk_at "ds";exact hN _ ⟨(1+x).toNat,y.toNat,by omega,by omega,by omega,by rw[Int.toNat_of_nonneg (by omega),Int.toNat_of_nonneg ly]⟩
  rintro σ ⟨n,b,n1,hn,hb,rfl⟩;refine y9 (λσ=>∃N1 N2:Nat,N1<2 ^ n/\N2<2 ^ n/\σ = [some (.scr ns),some (.val (.int v)),some .pen,some (.val (.int n)),some (.val (.int b)),some (.val (.tuple ((stN N1 25).map pD))),some (.val (.tuple ((stN N2 25).map pD))),u7]) (λN hN=>?_) ?_
  ·walk_at "ds";refine⟨by decide,by decide,?_⟩;have pn:2 ^ n<=16777216:=Nat.pow_le_pow_right (n:=2) (by decide) hn;have p0:0<2 ^ n:=Nat.two_pow_pos n;have pp:(1 * 2 ^ ((n:Nat):Int).toNat:Int)=((2 ^ n:Nat):Int):=by rw[Int.one_mul,Int.toNat_natCast];simp
   generalize hF:2 ^ n=F at pn p0 pp hN;rw[show wa 0 (Int.toNat 2) = [PyData.int 0,PyData.int 1] from rfl,lcD];walk_at "ds";refine⟨⟨by omega,by omega,by decide⟩,?_⟩;rw[pp];refine zj9 (by omega) (by omega) λx lx hx=>?_;walk_at "ds";refine⟨x.toNat,n,by rw[Int.toNat_of_nonneg lx],by omega,by rw[hF];omega,?_⟩;walk_at "ds";rw[lcD];walk_at "ds";refine⟨⟨by omega,by omega,by decide⟩,?_⟩;rw[pp];refine zj9 (by omega) (by omega) λy ly hy=>?_;walk_at "ds";refine⟨y.toNat,n,by rw[Int.toNat_of_nonneg ly],by omega,by rw[hF];omega,?_⟩;walk_at "ds";rw[lcD];exact⟨rfl,rfl,hN _ ⟨x.toNat,y.toNat,by omega,by omega,rfl⟩⟩
  rintro σ ⟨N1,N2,h1,h2,rfl⟩;have o1:=zhz h1 hn;have o2:=zhz h2 hn;have l1:=o1.ln;have few:=zua h1 hn;refine y9 (λσ=>σ = [some (.scr ns),some (.val (.int v)),some .pen,some (.val (.int n)),some (.val (.int b)),some (.val (.tuple ((stN N1 25).map pD))),some (.val (.tuple ((stN N2 25).map pD))),u7]) (λN hN=>?_) ?_
  ·walk_at "ds";refine⟨N1,n,rfl,h1,hn,?_⟩;walk_at "ds";refine⟨N2,n,rfl,h2,hn,?_⟩;walk_at "ds";refine⟨_,_,n,rfl,o1,o2,?_⟩;walk_at "ds";exact hN _ rfl
  rintro σ rfl;generalize hs:stN N1 25=s at o1 l1 few;have hpos:∀r∈s,0<=r.1/\r.1<r.2:=λr hr=>⟨(o1.b r hr).1,o1.c.1 r hr⟩
  have hle:∀r∈s,r.2<=n:=λr hr=>(o1.b r hr).2;refine y9 (λσ=>σ = [some (.scr ns),some (.val (.int v)),some .pen,some (.val (.int n)),some (.val (.int b)),some (.val (.tuple (s.map pD))),some (.val (.tuple ((stN N2 25).map pD))),u7]) (λN hN=>?_) ?_
  ·walk_at "ds";refine⟨s,b,rfl,o1.c,by omega,λ⟨r,hr,z⟩=>(by have:=hle r hr;omega),?_⟩;rw[zoo hpos (by omega)];walk_at "ds"
   refine⟨s.map (shf b),0-(b:Int),rfl,zub o1.c b,by rw[List.length_map];omega,λ⟨r,hr,z⟩=>(by
    obtain⟨q,hq,rfl⟩:=List.mem_map.mp hr;have:=hle q hq;simp only[shf]at z;omega),?_⟩
   rw[zqo hpos];walk_at "ds";refine zab o1.lay rfl ⟨s,n,rfl,o1,?_⟩;walk_at "ds";refine⟨_,n,rfl,o2,?_⟩;walk_at "ds";exact hN _ rfl
  rintro σ rfl;refine y9 (λσ=>σ = [some (.scr ns),some (.val (.int v)),some .pen,some (.val (.int n)),some (.val (.int b)),some (.val (.tuple (s.map pD))),some (.val (.tuple ((stN N2 25).map pD))),u7]) (λN hN=>?_) ?_
  ·walk_at "ds";refine⟨s,b,rfl,o1.c,by omega,λ⟨r,hr,z⟩=>(by have:=hle r hr;omega),?_⟩;rw[zoo hpos (by omega)];walk_at "ds";refine⟨s.map (shf b),b+n,rfl,by rw[List.length_map];omega,by omega,?_⟩;walk_at "ds";refine⟨by omega,by omega,by omega,s,n,rfl,by omega,by omega,?_⟩;walk_at "ds";have e:=zuc (b:=b) (n:=n) λr hr=>(hpos r hr).1;rw[Int.toNat_natCast,zh1];have ly:=zqp ((List.range (b+n)).map λi:Nat=>yf (s.map (shf b)) (i:Int));rw[List.map_map]at ly;exact⟨by rw[List.length_replicate,List.length_map,List.length_range];omega,zab ly (congrArg PyData.list e) (hN _ rfl)⟩
  rintro σ rfl;refine y9 (λσ=>σ = [some (.scr ns),some (.val (.int v)),some .pen,some (.val (.int n)),some (.val (.int b)),some (.val (.tuple (s.map pD))),some (.val (.tuple ((stN N2 25).map pD))),some (.val (.int (pc N1:Int)))]) (λN hN=>?_) ?_
  ·walk_at "ds";refine⟨s,0,n,rfl,by omega,?_⟩;rw[few];exact hN _ rfl
  rintro σ rfl;walk_at "ds"
  by_cases c:(n:Int)<9
  ·rw[if_pos c];have p8:2 ^ n<=2 ^ 8:=Nat.pow_le_pow_right (n:=2) (by decide) (by omega);have cl:=zon n (pc N1);refine⟨n,pc N1,rfl,hn,by rw[zdx hn];omega,?_⟩;walk_at "ds";refine⟨o1.lay,Lay.list λx hx=>?_,?_⟩
   ·obtain⟨m,hm,rfl⟩:=List.mem_map.mp hx;have om:=zhz (zrf hm) hn;exact⟨om.lay,Nat.le_trans om.sh.dep (by decide)⟩
   ·have hin:inD (PyData.tuple (s.map pD)) ((nw n (pc N1)).map λm=>PyData.tuple ((stN m 25).map pD))=true:=List.any_eq_true.mpr ⟨PyData.tuple (s.map pD),List.mem_map.mpr ⟨N1,List.mem_filter.mpr ⟨List.mem_range.mpr h1,decide_eq_true rfl⟩,by rw[hs]⟩,jd o1.lay⟩;rw[hin,if_neg (by decide)];exact k _ ⟨_,_,_,_,_,_,_,rfl⟩
  ·rw[if_neg c];exact k _ ⟨_,_,_,_,_,_,_,rfl⟩
 ·rintro σ ⟨u1,u2,u3,u4,u5,u6,u7,rfl⟩;walk_at "ds";exact q
end
theorem zw7{us:List Value}(h:us.length=0):us = []:=List.eq_nil_of_length_eq_zero h
theorem jw{us:List Value}(h:us.length=1):∃a0,us = [a0]:=by
 cases us with
 |nil=>cases h
 |cons a t=>
  obtain rfl:=zw7 (Nat.succ.inj h);exact⟨a,rfl⟩
theorem jc{us:List Value}(h:us.length=2):∃a0 a1,us = [a0,a1]:=by
 cases us with
 |nil=>cases h
 |cons a t=>
  obtain⟨a1,rfl⟩:=jw (Nat.succ.inj h);exact⟨a,a1,rfl⟩
theorem zue{us:List Value}(h:us.length=3):∃a0 a1 a2,us = [a0,a1,a2]:=by
 cases us with
 |nil=>cases h
 |cons a t=>
  obtain⟨a1,a2,rfl⟩:=jc (Nat.succ.inj h);exact⟨a,a1,a2,rfl⟩
theorem zuf{l:PySem.W.OpenLaw}{w:World}{K:PySem.W.Frag}{h:Heap}{mg:Str->Option Value}{fa f0 f1 f2 f3 f4 f5 f6 f7 f8 f9 f10 f11 f12 f13 f14 f15 f16 f17 f18 f19 f20 f21 f22 f23 f24 f25 f26 f27 f28 f29 f30 f31 f32 f33 f34 f35:Addr}(X:K.In h)(G:h.Ns mainGlobals mg)(hfa:mg "law" = some (.ref fa))
  {od0 an0:Option Addr}{sl0:Array (Option Value)}{oc0 kV0 dc0 pm0 cd0 ct0:Value}
  (a0:PySem.W.nsIn K mainGlobals "is_whole" = some (some (.ref f0))) (l0:K.lookup f0=some ⟨oc0,od0,.func (PySem.W.fnOf "is_whole" "is_whole" (zi xy) (zh xy) (zc xy) .none kV0 dc0 pm0 an0 cd0 ct0),sl0⟩) (c0:PySem.W.codeIn K cd0 "is_whole" = true) (k0:PySem.W.keepIn K (.ref f0)=true)
  {od1 an1:Option Addr}{sl1:Array (Option Value)}{oc1 kV1 dc1 pm1 cd1 ct1:Value}
  (a1:PySem.W.nsIn K mainGlobals "whole_in" = some (some (.ref f1))) (l1:K.lookup f1=some ⟨oc1,od1,.func (PySem.W.fnOf "whole_in" "whole_in" (zi xz) (zh xz) (zc xz) .none kV1 dc1 pm1 an1 cd1 ct1),sl1⟩) (c1:PySem.W.codeIn K cd1 "whole_in" = true) (k1:PySem.W.keepIn K (.ref f1)=true)
  {od2 an2:Option Addr}{sl2:Array (Option Value)}{oc2 kV2 dc2 pm2 cd2 ct2:Value}
  (a2:PySem.W.nsIn K mainGlobals "choices" = some (some (.ref f2))) (l2:K.lookup f2=some ⟨oc2,od2,.func (PySem.W.fnOf "choices" "choices" (zi wf) (zh wf) (zc wf) .none kV2 dc2 pm2 an2 cd2 ct2),sl2⟩) (c2:PySem.W.codeIn K cd2 "choices" = true) (k2:PySem.W.keepIn K (.ref f2)=true)
  {od3 an3:Option Addr}{sl3:Array (Option Value)}{oc3 kV3 dc3 pm3 cd3 ct3:Value}
  (a3:PySem.W.nsIn K mainGlobals "stretch_good" = some (some (.ref f3))) (l3:K.lookup f3=some ⟨oc3,od3,.func (PySem.W.fnOf "stretch_good" "stretch_good" (zi yu) (zh yu) (zc yu) .none kV3 dc3 pm3 an3 cd3 ct3),sl3⟩) (c3:PySem.W.codeIn K cd3 "stretch_good" = true) (k3:PySem.W.keepIn K (.ref f3)=true)
  {od4 an4:Option Addr}{sl4:Array (Option Value)}{oc4 kV4 dc4 pm4 cd4 ct4:Value}
  (a4:PySem.W.nsIn K mainGlobals "story_good" = some (some (.ref f4))) (l4:K.lookup f4=some ⟨oc4,od4,.func (PySem.W.fnOf "story_good" "story_good" (zi xb) (zh xb) (zc xb) .none kV4 dc4 pm4 an4 cd4 ct4),sl4⟩) (c4:PySem.W.codeIn K cd4 "story_good" = true) (k4:PySem.W.keepIn K (.ref f4)=true)
  {od5 an5:Option Addr}{sl5:Array (Option Value)}{oc5 kV5 dc5 pm5 cd5 ct5:Value}
  (a5:PySem.W.nsIn K mainGlobals "stretches_of" = some (some (.ref f5))) (l5:K.lookup f5=some ⟨oc5,od5,.func (PySem.W.fnOf "stretches_of" "stretches_of" (zi yv) (zh yv) (zc yv) .none kV5 dc5 pm5 an5 cd5 ct5),sl5⟩) (c5:PySem.W.codeIn K cd5 "stretches_of" = true) (k5:PySem.W.keepIn K (.ref f5)=true)
  {od6 an6:Option Addr}{sl6:Array (Option Value)}{oc6 kV6 dc6 pm6 cd6 ct6:Value}
  (a6:PySem.W.nsIn K mainGlobals "story_of" = some (some (.ref f6))) (l6:K.lookup f6=some ⟨oc6,od6,.func (PySem.W.fnOf "story_of" "story_of" (zi x0) (zh x0) (zc x0) .none kV6 dc6 pm6 an6 cd6 ct6),sl6⟩) (c6:PySem.W.codeIn K cd6 "story_of" = true) (k6:PySem.W.keepIn K (.ref f6)=true)
  {od7 an7:Option Addr}{sl7:Array (Option Value)}{oc7 kV7 dc7 pm7 cd7 ct7:Value}
  (a7:PySem.W.nsIn K mainGlobals "silent_at" = some (some (.ref f7))) (l7:K.lookup f7=some ⟨oc7,od7,.func (PySem.W.fnOf "silent_at" "silent_at" (zi xm) (zh xm) (zc xm) .none kV7 dc7 pm7 an7 cd7 ct7),sl7⟩) (c7:PySem.W.codeIn K cd7 "silent_at" = true) (k7:PySem.W.keepIn K (.ref f7)=true)
  {od8 an8:Option Addr}{sl8:Array (Option Value)}{oc8 kV8 dc8 pm8 cd8 ct8:Value}
  (a8:PySem.W.nsIn K mainGlobals "healed_at" = some (some (.ref f8))) (l8:K.lookup f8=some ⟨oc8,od8,.func (PySem.W.fnOf "healed_at" "healed_at" (zi xn) (zh xn) (zc xn) .none kV8 dc8 pm8 an8 cd8 ct8),sl8⟩) (c8:PySem.W.codeIn K cd8 "healed_at" = true) (k8:PySem.W.keepIn K (.ref f8)=true)
  {od9 an9:Option Addr}{sl9:Array (Option Value)}{oc9 kV9 dc9 pm9 cd9 ct9:Value}
  (a9:PySem.W.nsIn K mainGlobals "next_sound" = some (some (.ref f9))) (l9:K.lookup f9=some ⟨oc9,od9,.func (PySem.W.fnOf "next_sound" "next_sound" (zi xc) (zh xc) (zc xc) .none kV9 dc9 pm9 an9 cd9 ct9),sl9⟩) (c9:PySem.W.codeIn K cd9 "next_sound" = true) (k9:PySem.W.keepIn K (.ref f9)=true)
  {od10 an10:Option Addr}{sl10:Array (Option Value)}{oc10 kV10 dc10 pm10 cd10 ct10:Value}
  (a10:PySem.W.nsIn K mainGlobals "next_silent" = some (some (.ref f10))) (l10:K.lookup f10=some ⟨oc10,od10,.func (PySem.W.fnOf "next_silent" "next_silent" (zi y3) (zh y3) (zc y3) .none kV10 dc10 pm10 an10 cd10 ct10),sl10⟩) (c10:PySem.W.codeIn K cd10 "next_silent" = true) (k10:PySem.W.keepIn K (.ref f10)=true)
  {od11 an11:Option Addr}{sl11:Array (Option Value)}{oc11 kV11 dc11 pm11 cd11 ct11:Value}
  (a11:PySem.W.nsIn K mainGlobals "silent_many" = some (some (.ref f11))) (l11:K.lookup f11=some ⟨oc11,od11,.func (PySem.W.fnOf "silent_many" "silent_many" (zi y4) (zh y4) (zc y4) .none kV11 dc11 pm11 an11 cd11 ct11),sl11⟩) (c11:PySem.W.codeIn K cd11 "silent_many" = true) (k11:PySem.W.keepIn K (.ref f11)=true)
  {od12 an12:Option Addr}{sl12:Array (Option Value)}{oc12 kV12 dc12 pm12 cd12 ct12:Value}
  (a12:PySem.W.nsIn K mainGlobals "longest_of" = some (some (.ref f12))) (l12:K.lookup f12=some ⟨oc12,od12,.func (PySem.W.fnOf "longest_of" "longest_of" (zi xf) (zh xf) (zc xf) .none kV12 dc12 pm12 an12 cd12 ct12),sl12⟩) (c12:PySem.W.codeIn K cd12 "longest_of" = true) (k12:PySem.W.keepIn K (.ref f12)=true)
  {od13 an13:Option Addr}{sl13:Array (Option Value)}{oc13 kV13 dc13 pm13 cd13 ct13:Value}
  (a13:PySem.W.nsIn K mainGlobals "fitting" = some (some (.ref f13))) (l13:K.lookup f13=some ⟨oc13,od13,.func (PySem.W.fnOf "fitting" "fitting" (zi wg) (zh wg) (zc wg) .none kV13 dc13 pm13 an13 cd13 ct13),sl13⟩) (c13:PySem.W.codeIn K cd13 "fitting" = true) (k13:PySem.W.keepIn K (.ref f13)=true)
  {od14 an14:Option Addr}{sl14:Array (Option Value)}{oc14 kV14 dc14 pm14 cd14 ct14:Value}
  (a14:PySem.W.nsIn K mainGlobals "either" = some (some (.ref f14))) (l14:K.lookup f14=some ⟨oc14,od14,.func (PySem.W.fnOf "either" "either" (zi wt) (zh wt) (zc wt) .none kV14 dc14 pm14 an14 cd14 ct14),sl14⟩) (c14:PySem.W.codeIn K cd14 "either" = true) (k14:PySem.W.keepIn K (.ref f14)=true)
  {od15 an15:Option Addr}{sl15:Array (Option Value)}{oc15 kV15 dc15 pm15 cd15 ct15:Value}
  (a15:PySem.W.nsIn K mainGlobals "both" = some (some (.ref f15))) (l15:K.lookup f15=some ⟨oc15,od15,.func (PySem.W.fnOf "both" "both" (zi kl) (zh kl) (zc kl) .none kV15 dc15 pm15 an15 cd15 ct15),sl15⟩) (c15:PySem.W.codeIn K cd15 "both" = true) (k15:PySem.W.keepIn K (.ref f15)=true)
  {od16 an16:Option Addr}{sl16:Array (Option Value)}{oc16 kV16 dc16 pm16 cd16 ct16:Value}
  (a16:PySem.W.nsIn K mainGlobals "other_way" = some (some (.ref f16))) (l16:K.lookup f16=some ⟨oc16,od16,.func (PySem.W.fnOf "other_way" "other_way" (zi xo) (zh xo) (zc xo) .none kV16 dc16 pm16 an16 cd16 ct16),sl16⟩) (c16:PySem.W.codeIn K cd16 "other_way" = true) (k16:PySem.W.keepIn K (.ref f16)=true)
  {od17 an17:Option Addr}{sl17:Array (Option Value)}{oc17 kV17 dc17 pm17 cd17 ct17:Value}
  (a17:PySem.W.nsIn K mainGlobals "later_by" = some (some (.ref f17))) (l17:K.lookup f17=some ⟨oc17,od17,.func (PySem.W.fnOf "later_by" "later_by" (zi x3) (zh x3) (zc x3) .none kV17 dc17 pm17 an17 cd17 ct17),sl17⟩) (c17:PySem.W.codeIn K cd17 "later_by" = true) (k17:PySem.W.keepIn K (.ref f17)=true)
  {od18 an18:Option Addr}{sl18:Array (Option Value)}{oc18 kV18 dc18 pm18 cd18 ct18:Value}
  (a18:PySem.W.nsIn K mainGlobals "story_at" = some (some (.ref f18))) (l18:K.lookup f18=some ⟨oc18,od18,.func (PySem.W.fnOf "story_at" "story_at" (zi x4) (zh x4) (zc x4) .none kV18 dc18 pm18 an18 cd18 ct18),sl18⟩) (c18:PySem.W.codeIn K cd18 "story_at" = true) (k18:PySem.W.keepIn K (.ref f18)=true)
  {od19 an19:Option Addr}{sl19:Array (Option Value)}{oc19 kV19 dc19 pm19 cd19 ct19:Value}
  (a19:PySem.W.nsIn K mainGlobals "number_of" = some (some (.ref f19))) (l19:K.lookup f19=some ⟨oc19,od19,.func (PySem.W.fnOf "number_of" "number_of" (zi xp) (zh xp) (zc xp) .none kV19 dc19 pm19 an19 cd19 ct19),sl19⟩) (c19:PySem.W.codeIn K cd19 "number_of" = true) (k19:PySem.W.keepIn K (.ref f19)=true)
  {od20 an20:Option Addr}{sl20:Array (Option Value)}{oc20 kV20 dc20 pm20 cd20 ct20:Value}
  (a20:PySem.W.nsIn K mainGlobals "silent_choices" = some (some (.ref f20))) (l20:K.lookup f20=some ⟨oc20,od20,.func (PySem.W.fnOf "silent_choices" "silent_choices" (zi yo) (zh yo) (zc yo) .none kV20 dc20 pm20 an20 cd20 ct20),sl20⟩) (c20:PySem.W.codeIn K cd20 "silent_choices" = true) (k20:PySem.W.keepIn K (.ref f20)=true)
  {od21 an21:Option Addr}{sl21:Array (Option Value)}{oc21 kV21 dc21 pm21 cd21 ct21:Value}
  (a21:PySem.W.nsIn K mainGlobals "numbers_with" = some (some (.ref f21))) (l21:K.lookup f21=some ⟨oc21,od21,.func (PySem.W.fnOf "numbers_with" "numbers_with" (zi yw) (zh yw) (zc yw) .none kV21 dc21 pm21 an21 cd21 ct21),sl21⟩) (c21:PySem.W.codeIn K cd21 "numbers_with" = true) (k21:PySem.W.keepIn K (.ref f21)=true)
  {od22 an22:Option Addr}{sl22:Array (Option Value)}{oc22 kV22 dc22 pm22 cd22 ct22:Value}
  (a22:PySem.W.nsIn K mainGlobals "stories_with" = some (some (.ref f22))) (l22:K.lookup f22=some ⟨oc22,od22,.func (PySem.W.fnOf "stories_with" "stories_with" (zi yx) (zh yx) (zc yx) .none kV22 dc22 pm22 an22 cd22 ct22),sl22⟩) (c22:PySem.W.codeIn K cd22 "stories_with" = true) (k22:PySem.W.keepIn K (.ref f22)=true)
  {od23 an23:Option Addr}{sl23:Array (Option Value)}{oc23 kV23 dc23 pm23 cd23 ct23:Value}
  (a23:PySem.W.nsIn K mainGlobals "look_good" = some (some (.ref f23))) (l23:K.lookup f23=some ⟨oc23,od23,.func (PySem.W.fnOf "look_good" "look_good" (zi xq) (zh xq) (zc xq) .none kV23 dc23 pm23 an23 cd23 ct23),sl23⟩) (c23:PySem.W.codeIn K cd23 "look_good" = true) (k23:PySem.W.keepIn K (.ref f23)=true)
  {od24 an24:Option Addr}{sl24:Array (Option Value)}{oc24 kV24 dc24 pm24 cd24 ct24:Value}
  (a24:PySem.W.nsIn K mainGlobals "looks_good" = some (some (.ref f24))) (l24:K.lookup f24=some ⟨oc24,od24,.func (PySem.W.fnOf "looks_good" "looks_good" (zi xg) (zh xg) (zc xg) .none kV24 dc24 pm24 an24 cd24 ct24),sl24⟩) (c24:PySem.W.codeIn K cd24 "looks_good" = true) (k24:PySem.W.keepIn K (.ref f24)=true)
  {od25 an25:Option Addr}{sl25:Array (Option Value)}{oc25 kV25 dc25 pm25 cd25 ct25:Value}
  (a25:PySem.W.nsIn K mainGlobals "holds" = some (some (.ref f25))) (l25:K.lookup f25=some ⟨oc25,od25,.func (PySem.W.fnOf "holds" "holds" (zi vo) (zh vo) (zc vo) .none kV25 dc25 pm25 an25 cd25 ct25),sl25⟩) (c25:PySem.W.codeIn K cd25 "holds" = true) (k25:PySem.W.keepIn K (.ref f25)=true)
  {od26 an26:Option Addr}{sl26:Array (Option Value)}{oc26 kV26 dc26 pm26 cd26 ct26:Value}
  (a26:PySem.W.nsIn K mainGlobals "story_for" = some (some (.ref f26))) (l26:K.lookup f26=some ⟨oc26,od26,.func (PySem.W.fnOf "story_for" "story_for" (zi xr) (zh xr) (zc xr) .none kV26 dc26 pm26 an26 cd26 ct26),sl26⟩) (c26:PySem.W.codeIn K cd26 "story_for" = true) (k26:PySem.W.keepIn K (.ref f26)=true)
  {od27 an27:Option Addr}{sl27:Array (Option Value)}{oc27 kV27 dc27 pm27 cd27 ct27:Value}
  (a27:PySem.W.nsIn K mainGlobals "_law_cell_at" = some (some (.ref f27))) (l27:K.lookup f27=some ⟨oc27,od27,.func (PySem.W.fnOf "_law_cell_at" "_law_cell_at" (zi yy) (zh yy) (zc yy) .none kV27 dc27 pm27 an27 cd27 ct27),sl27⟩) (c27:PySem.W.codeIn K cd27 "_law_cell_at" = true) (k27:PySem.W.keepIn K (.ref f27)=true)
  {od28 an28:Option Addr}{sl28:Array (Option Value)}{oc28 kV28 dc28 pm28 cd28 ct28:Value}
  (a28:PySem.W.nsIn K mainGlobals "_law_next" = some (some (.ref f28))) (l28:K.lookup f28=some ⟨oc28,od28,.func (PySem.W.fnOf "_law_next" "_law_next" (zi xt) (zh xt) (zc xt) .none kV28 dc28 pm28 an28 cd28 ct28),sl28⟩) (c28:PySem.W.codeIn K cd28 "_law_next" = true) (k28:PySem.W.keepIn K (.ref f28)=true)
  {od29 an29:Option Addr}{sl29:Array (Option Value)}{oc29 kV29 dc29 pm29 cd29 ct29:Value}
  (a29:PySem.W.nsIn K mainGlobals "_law_pen_of" = some (some (.ref f29))) (l29:K.lookup f29=some ⟨oc29,od29,.func (PySem.W.fnOf "_law_pen_of" "_law_pen_of" (zi y6) (zh y6) (zc y6) .none kV29 dc29 pm29 an29 cd29 ct29),sl29⟩) (c29:PySem.W.codeIn K cd29 "_law_pen_of" = true) (k29:PySem.W.keepIn K (.ref f29)=true)
  {od30 an30:Option Addr}{sl30:Array (Option Value)}{oc30 kV30 dc30 pm30 cd30 ct30:Value}
  (a30:PySem.W.nsIn K mainGlobals "_law_draw" = some (some (.ref f30))) (l30:K.lookup f30=some ⟨oc30,od30,.func (PySem.W.fnOf "_law_draw" "_law_draw" (zi xu) (zh xu) (zc xu) .none kV30 dc30 pm30 an30 cd30 ct30),sl30⟩) (c30:PySem.W.codeIn K cd30 "_law_draw" = true) (k30:PySem.W.keepIn K (.ref f30)=true)
  {od31 an31:Option Addr}{sl31:Array (Option Value)}{oc31 kV31 dc31 pm31 cd31 ct31:Value}
  (a31:PySem.W.nsIn K mainGlobals "_law_marks" = some (some (.ref f31))) (l31:K.lookup f31=some ⟨oc31,od31,.func (PySem.W.fnOf "_law_marks" "_law_marks" (zi xh) (zh xh) (zc xh) .none kV31 dc31 pm31 an31 cd31 ct31),sl31⟩) (c31:PySem.W.codeIn K cd31 "_law_marks" = true) (k31:PySem.W.keepIn K (.ref f31)=true)
  {od32 an32:Option Addr}{sl32:Array (Option Value)}{oc32 kV32 dc32 pm32 cd32 ct32:Value}
  (a32:PySem.W.nsIn K mainGlobals "_law_one_right" = some (some (.ref f32))) (l32:K.lookup f32=some ⟨oc32,od32,.func (PySem.W.fnOf "_law_one_right" "_law_one_right" (zi yp) (zh yp) (zc yp) .none kV32 dc32 pm32 an32 cd32 ct32),sl32⟩) (c32:PySem.W.codeIn K cd32 "_law_one_right" = true) (k32:PySem.W.keepIn K (.ref f32)=true)
  {od33 an33:Option Addr}{sl33:Array (Option Value)}{oc33 kV33 dc33 pm33 cd33 ct33:Value}
  (a33:PySem.W.nsIn K mainGlobals "_law_two_right" = some (some (.ref f33))) (l33:K.lookup f33=some ⟨oc33,od33,.func (PySem.W.fnOf "_law_two_right" "_law_two_right" (zi yq) (zh yq) (zc yq) .none kV33 dc33 pm33 an33 cd33 ct33),sl33⟩) (c33:PySem.W.codeIn K cd33 "_law_two_right" = true) (k33:PySem.W.keepIn K (.ref f33)=true)
  {od34 an34:Option Addr}{sl34:Array (Option Value)}{oc34 kV34 dc34 pm34 cd34 ct34:Value}
  (a34:PySem.W.nsIn K mainGlobals "_law_looks_right" = some (some (.ref f34))) (l34:K.lookup f34=some ⟨oc34,od34,.func (PySem.W.fnOf "_law_looks_right" "_law_looks_right" (zi yh) (zh yh) (zc yh) .none kV34 dc34 pm34 an34 cd34 ct34),sl34⟩) (c34:PySem.W.codeIn K cd34 "_law_looks_right" = true) (k34:PySem.W.keepIn K (.ref f34)=true)
  {od35 an35:Option Addr}{sl35:Array (Option Value)}{oc35 kV35 dc35 pm35 cd35 ct35:Value}
  (a35:PySem.W.nsIn K mainGlobals "law" = some (some (.ref f35))) (l35:K.lookup f35=some ⟨oc35,od35,.func (PySem.W.fnOf "law" "law" (zi kw) (zh kw) (zc kw) .none kV35 dc35 pm35 an35 cd35 ct35),sl35⟩) (c35:PySem.W.codeIn K cd35 "law" = true) (k35:PySem.W.keepIn K (.ref f35)=true)
  (z_len:PySem.W.nsIn K mainGlobals "len" = some none)
  (z_range:PySem.W.nsIn K mainGlobals "range" = some none)
  (z_enumerate:PySem.W.nsIn K mainGlobals "enumerate" = some none)
  (z_sum:PySem.W.nsIn K mainGlobals "sum" = some none)
  (z_min:PySem.W.nsIn K mainGlobals "min" = some none)
  (z_max:PySem.W.nsIn K mainGlobals "max" = some none)
  (z_isinstance:PySem.W.nsIn K mainGlobals "isinstance" = some none)
  (z_any:PySem.W.nsIn K mainGlobals "any" = some none)
  (z_all:PySem.W.nsIn K mainGlobals "all" = some none)
  (z_sorted:PySem.W.nsIn K mainGlobals "sorted" = some none)
  (z_reversed:PySem.W.nsIn K mainGlobals "reversed" = some none)
  (z_tupleT:PySem.W.nsIn K mainGlobals "tuple" = some none)
  (z_intT:PySem.W.nsIn K mainGlobals "int" = some none)
  (z_boolT:PySem.W.nsIn K mainGlobals "bool" = some none)
  (z_setT:PySem.W.nsIn K mainGlobals "set" = some none)
  {t_LAST_BEAT:Tok} (y_LAST_BEAT:PySem.W.nsIn K mainGlobals "LAST_BEAT" = some (some (.int 1000000 t_LAST_BEAT)))
  {t_MOST_STRETCHES:Tok} (y_MOST_STRETCHES:PySem.W.nsIn K mainGlobals "MOST_STRETCHES" = some (some (.int 200 t_MOST_STRETCHES)))
  {t_MOST_STORIES:Tok} (y_MOST_STORIES:PySem.W.nsIn K mainGlobals "MOST_STORIES" = some (some (.int 300 t_MOST_STORIES)))
  {t_MOST_LOOKS:Tok} (y_MOST_LOOKS:PySem.W.nsIn K mainGlobals "MOST_LOOKS" = some (some (.int 12 t_MOST_LOOKS)))
  {t_SILENT:Tok} (y_SILENT:PySem.W.nsIn K mainGlobals "SILENT" = some (some (.str "silent" t_SILENT)))
  {t_SOUND:Tok} (y_SOUND:PySem.W.nsIn K mainGlobals "SOUND" = some (some (.str "sound" t_SOUND)))
  {c T:Addr} (hcd:cd12=.ref c):∃fd:FuncData,(∀(s:Shared) (v:Value),BindsTo s fd ⟨[v],[]⟩ [("_law_script",v)])/\∀base:Heap,K.In base->base.Ns mainGlobals mg->jf mg base->PySem.W.CodeHd base c T->FnOk l.prog w K mg base CX0 8 fa fd ["_law_script"] (qf "longest_of.<locals>.<lambda>" T (z4 K zdp)):=by
 have e:=hfa.symm.trans (PySem.W.mg_of X G a35)
 cases e;have B:Blt mg:=⟨PySem.W.mg_none_of X G z_len,PySem.W.mg_none_of X G z_range,PySem.W.mg_none_of X G z_enumerate,PySem.W.mg_none_of X G z_sum,PySem.W.mg_none_of X G z_min,PySem.W.mg_none_of X G z_max,PySem.W.mg_none_of X G z_isinstance,PySem.W.mg_none_of X G z_any,PySem.W.mg_none_of X G z_all,PySem.W.mg_none_of X G z_sorted,PySem.W.mg_none_of X G z_reversed,PySem.W.mg_none_of X G z_tupleT,PySem.W.mg_none_of X G z_intT,PySem.W.mg_none_of X G z_boolT,PySem.W.mg_none_of X G z_setT⟩
 have G_LAST_BEAT:=PySem.W.mg_of X G y_LAST_BEAT;have G_MOST_STRETCHES:=PySem.W.mg_of X G y_MOST_STRETCHES;have G_MOST_STORIES:=PySem.W.mg_of X G y_MOST_STORIES;have G_MOST_LOOKS:=PySem.W.mg_of X G y_MOST_LOOKS;have G_SILENT:=PySem.W.mg_of X G y_SILENT;have G_SOUND:=PySem.W.mg_of X G y_SOUND;have F0:=yn (st:=xy) l0 c0 k0;have b0:=F0.binds (ps:=["thing"]) λ_ _ _ _ _ _ us hl=>by obtain⟨_,rfl⟩:=jw hl;rfl
 have F1:=yn (st:=xz) l1 c1 k1;have b1:=F1.binds (ps:=["thing", "least", "most"]) λ_ _ _ _ _ _ us hl=>by obtain⟨_,_,_,rfl⟩:=zue hl;rfl
 have F2:=yn (st:=wf) l2 c2 k2;have b2:=F2.binds (ps:=["n", "k"]) λ_ _ _ _ _ _ us hl=>by obtain⟨_,_,rfl⟩:=jc hl;rfl
 have F3:=yn (st:=yu) l3 c3 k3;have b3:=F3.binds (ps:=["thing"]) λ_ _ _ _ _ _ us hl=>by obtain⟨_,rfl⟩:=jw hl;rfl
 have F4:=yn (st:=xb) l4 c4 k4;have b4:=F4.binds (ps:=["thing"]) λ_ _ _ _ _ _ us hl=>by obtain⟨_,rfl⟩:=jw hl;rfl
 have F5:=yn (st:=yv) l5 c5 k5;have b5:=F5.binds (ps:=["beats"]) λ_ _ _ _ _ _ us hl=>by obtain⟨_,rfl⟩:=jw hl;rfl
 have F6:=yn (st:=x0) l6 c6 k6;have b6:=F6.binds (ps:=["things"]) λ_ _ _ _ _ _ us hl=>by obtain⟨_,rfl⟩:=jw hl;rfl
 have F7:=yn (st:=xm) l7 c7 k7;have b7:=F7.binds (ps:=["story", "beat"]) λ_ _ _ _ _ _ us hl=>by obtain⟨_,_,rfl⟩:=jc hl;rfl
 have F8:=yn (st:=xn) l8 c8 k8;have b8:=F8.binds (ps:=["story"]) λ_ _ _ _ _ _ us hl=>by obtain⟨_,rfl⟩:=jw hl;rfl
 have F9:=yn (st:=xc) l9 c9 k9;have b9:=F9.binds (ps:=["story", "beat"]) λ_ _ _ _ _ _ us hl=>by obtain⟨_,_,rfl⟩:=jc hl;rfl
 have F10:=yn (st:=y3) l10 c10 k10;have b10:=F10.binds (ps:=["story", "beat"]) λ_ _ _ _ _ _ us hl=>by obtain⟨_,_,rfl⟩:=jc hl;rfl
 have F11:=yn (st:=y4) l11 c11 k11;have b11:=F11.binds (ps:=["story", "first", "last"]) λ_ _ _ _ _ _ us hl=>by obtain⟨_,_,_,rfl⟩:=zue hl;rfl
 have F12:=yn (st:=xf) l12 c12 k12;have b12:=F12.binds (ps:=["story"]) λ_ _ _ _ _ _ us hl=>by obtain⟨_,rfl⟩:=jw hl;rfl
 have F13:=yn (st:=wg) l13 c13 k13;have b13:=F13.binds (ps:=["stretches"]) λ_ _ _ _ _ _ us hl=>by obtain⟨_,rfl⟩:=jw hl;rfl
 have F14:=yn (st:=wt) l14 c14 k14;have b14:=F14.binds (ps:=["one", "other"]) λ_ _ _ _ _ _ us hl=>by obtain⟨_,_,rfl⟩:=jc hl;rfl
 have F15:=yn (st:=kl) l15 c15 k15;have b15:=F15.binds (ps:=["one", "other"]) λ_ _ _ _ _ _ us hl=>by obtain⟨_,_,rfl⟩:=jc hl;rfl
 have F16:=yn (st:=xo) l16 c16 k16;have b16:=F16.binds (ps:=["story", "beat"]) λ_ _ _ _ _ _ us hl=>by obtain⟨_,_,rfl⟩:=jc hl;rfl
 have F17:=yn (st:=x3) l17 c17 k17;have b17:=F17.binds (ps:=["story", "by"]) λ_ _ _ _ _ _ us hl=>by obtain⟨_,_,rfl⟩:=jc hl;rfl
 have F18:=yn (st:=x4) l18 c18 k18;have b18:=F18.binds (ps:=["number", "n"]) λ_ _ _ _ _ _ us hl=>by obtain⟨_,_,rfl⟩:=jc hl;rfl
 have F19:=yn (st:=xp) l19 c19 k19;have b19:=F19.binds (ps:=["story"]) λ_ _ _ _ _ _ us hl=>by obtain⟨_,rfl⟩:=jw hl;rfl
 have F20:=yn (st:=yo) l20 c20 k20;have b20:=F20.binds (ps:=["n", "k"]) λ_ _ _ _ _ _ us hl=>by obtain⟨_,_,rfl⟩:=jc hl;rfl
 have F21:=yn (st:=yw) l21 c21 k21;have b21:=F21.binds (ps:=["n", "k"]) λ_ _ _ _ _ _ us hl=>by obtain⟨_,_,rfl⟩:=jc hl;rfl
 have F22:=yn (st:=yx) l22 c22 k22;have b22:=F22.binds (ps:=["n", "k"]) λ_ _ _ _ _ _ us hl=>by obtain⟨_,_,rfl⟩:=jc hl;rfl
 have F23:=yn (st:=xq) l23 c23 k23;have b23:=F23.binds (ps:=["thing"]) λ_ _ _ _ _ _ us hl=>by obtain⟨_,rfl⟩:=jw hl;rfl
 have F24:=yn (st:=xg) l24 c24 k24;have b24:=F24.binds (ps:=["thing"]) λ_ _ _ _ _ _ us hl=>by obtain⟨_,rfl⟩:=jw hl;rfl
 have F25:=yn (st:=vo) l25 c25 k25;have b25:=F25.binds (ps:=["story", "thing"]) λ_ _ _ _ _ _ us hl=>by obtain⟨_,_,rfl⟩:=jc hl;rfl
 have F26:=yn (st:=xr) l26 c26 k26;have b26:=F26.binds (ps:=["looks"]) λ_ _ _ _ _ _ us hl=>by obtain⟨_,rfl⟩:=jw hl;rfl
 have F27:=yn (st:=yy) l27 c27 k27;have b27:=F27.binds (ps:=["_law_script", "_law_k"]) λ_ _ _ _ _ _ us hl=>by obtain⟨_,_,rfl⟩:=jc hl;rfl
 have F28:=yn (st:=xt) l28 c28 k28;have b28:=F28.binds (ps:=["_law_seed"]) λ_ _ _ _ _ _ us hl=>by obtain⟨_,rfl⟩:=jw hl;rfl
 have F29:=yn (st:=y6) l29 c29 k29;have b29:=F29.binds (ps:=["_law_cell"]) λ_ _ _ _ _ _ us hl=>by obtain⟨_,rfl⟩:=jw hl;rfl
 have F30:=yn (st:=xu) l30 c30 k30;have b30:=F30.binds (ps:=["_law_pen", "_law_many"]) λ_ _ _ _ _ _ us hl=>by obtain⟨_,_,rfl⟩:=jc hl;rfl
 have F31:=yn (st:=xh) l31 c31 k31;have b31:=F31.binds (ps:=["_law_story", "_law_most"]) λ_ _ _ _ _ _ us hl=>by obtain⟨_,_,rfl⟩:=jc hl;rfl
 have F32:=yn (st:=yp) l32 c32 k32;have b32:=F32.binds (ps:=["_law_story", "_law_most"]) λ_ _ _ _ _ _ us hl=>by obtain⟨_,_,rfl⟩:=jc hl;rfl
 have F33:=yn (st:=yq) l33 c33 k33;have b33:=F33.binds (ps:=["_law_one", "_law_other", "_law_most"]) λ_ _ _ _ _ _ us hl=>by obtain⟨_,_,_,rfl⟩:=zue hl;rfl
 have F34:=yn (st:=yh) l34 c34 k34;have b34:=F34.binds (ps:=["_law_story"]) λ_ _ _ _ _ _ us hl=>by obtain⟨_,rfl⟩:=jw hl;rfl
 have F35:=yn (st:=kw) l35 c35 k35;refine⟨PySem.W.fnOf "law" "law" (zi kw) (zh kw) (zc kw) .none kV35 dc35 pm35 an35 cd35 ct35,λs v=>.of_eq rfl,λbase _ _ hB hC=>?_⟩;have C_is_whole:yd l.prog w K mg base _ "is_whole" ["thing"] _:=⟨_,_,zhn B F0  ,b0,k0,PySem.W.mg_of X G a0⟩
 have C_choices:yd l.prog w K mg base _ "choices" ["n", "k"] _:=⟨_,_,zji B F2  ,b2,k2,PySem.W.mg_of X G a2⟩
 have C_stretches_of:yd l.prog w K mg base _ "stretches_of" ["beats"] _:=⟨_,_,zce B F5  ,b5,k5,PySem.W.mg_of X G a5⟩
 have C_silent_at:yd l.prog w K mg base _ "silent_at" ["story", "beat"] _:=⟨_,_,zf5 B F7  ,b7,k7,PySem.W.mg_of X G a7⟩
 have C_healed_at:yd l.prog w K mg base _ "healed_at" ["story"] _:=⟨_,_,zf7 B F8  ,b8,k8,PySem.W.mg_of X G a8⟩
 have C_next_sound:yd l.prog w K mg base _ "next_sound" ["story", "beat"] _:=⟨_,_,zea B F9  ,b9,k9,PySem.W.mg_of X G a9⟩
 have C_next_silent:yd l.prog w K mg base _ "next_silent" ["story", "beat"] _:=⟨_,_,zdu B F10  ,b10,k10,PySem.W.mg_of X G a10⟩
 have C_silent_many:yd l.prog w K mg base _ "silent_many" ["story", "first", "last"] _:=⟨_,_,zdv B F11  ,b11,k11,PySem.W.mg_of X G a11⟩
 have C_fitting:yd l.prog w K mg base _ "fitting" ["stretches"] _:=⟨_,_,zjl B F13 G_MOST_STRETCHES ,b13,k13,PySem.W.mg_of X G a13⟩
 have C_number_of:yd l.prog w K mg base _ "number_of" ["story"] _:=⟨_,_,zgc B F19  ,b19,k19,PySem.W.mg_of X G a19⟩
 have C_numbers_with:yd l.prog w K mg base _ "numbers_with" ["n", "k"] _:=⟨_,_,zcf B F21  ,b21,k21,PySem.W.mg_of X G a21⟩
 have C__law_cell_at:yd l.prog w K mg base _ "_law_cell_at" ["_law_script", "_law_k"] _:=⟨_,_,zcd B F27  ,b27,k27,PySem.W.mg_of X G a27⟩
 have C__law_next:yd l.prog w K mg base _ "_law_next" ["_law_seed"] _:=⟨_,_,zf3 B F28  ,b28,k28,PySem.W.mg_of X G a28⟩
 have C__law_pen_of:yd l.prog w K mg base _ "_law_pen_of" ["_law_cell"] _:=⟨_,_,zdo B F29  ,b29,k29,PySem.W.mg_of X G a29⟩
 have C_whole_in:yd l.prog w K mg base _ "whole_in" ["thing", "least", "most"] _:=⟨_,_,zho B F1  C_is_whole,b1,k1,PySem.W.mg_of X G a1⟩
 have C_stretch_good:yd l.prog w K mg base _ "stretch_good" ["thing"] _:=⟨_,_,zch B F3 G_LAST_BEAT C_is_whole,b3,k3,PySem.W.mg_of X G a3⟩
 have C_either:yd l.prog w K mg base _ "either" ["one", "other"] _:=⟨_,_,zl7 B F14  C_fitting,b14,k14,PySem.W.mg_of X G a14⟩
 have C_both:yd l.prog w K mg base _ "both" ["one", "other"] _:=⟨_,_,zqa B F15  C_fitting,b15,k15,PySem.W.mg_of X G a15⟩
 have C_other_way:yd l.prog w K mg base _ "other_way" ["story", "beat"] _:=⟨_,_,zgh B F16  C_fitting,b16,k16,PySem.W.mg_of X G a16⟩
 have C_later_by:yd l.prog w K mg base _ "later_by" ["story", "by"] _:=⟨_,_,zhu B F17 G_LAST_BEAT C_healed_at,b17,k17,PySem.W.mg_of X G a17⟩
 have C_silent_choices:yd l.prog w K mg base _ "silent_choices" ["n", "k"] _:=⟨_,_,za0 B F20  C_choices,b20,k20,PySem.W.mg_of X G a20⟩
 have C__law_draw:yd l.prog w K mg base _ "_law_draw" ["_law_pen", "_law_many"] _:=⟨_,_,zf4 B F30  C__law_next,b30,k30,PySem.W.mg_of X G a30⟩
 have C__law_marks:yd l.prog w K mg base _ "_law_marks" ["_law_story", "_law_most"] _:=⟨_,_,zee B F31  C_silent_at,b31,k31,PySem.W.mg_of X G a31⟩
 have C_story_good:yd l.prog w K mg base _ "story_good" ["thing"] _:=⟨_,_,zec B F4 G_MOST_STRETCHES C_stretch_good,b4,k4,PySem.W.mg_of X G a4⟩
 have C_story_of:yd l.prog w K mg base _ "story_of" ["things"] _:=⟨_,_,zhy B F6 G_MOST_STRETCHES G_LAST_BEAT C_whole_in C_stretches_of,b6,k6,PySem.W.mg_of X G a6⟩
 have C_story_at:yd l.prog w K mg base _ "story_at" ["number", "n"] _:=⟨_,_,zhr B F18  C_whole_in C_stretches_of,b18,k18,PySem.W.mg_of X G a18⟩
 have C_look_good:yd l.prog w K mg base _ "look_good" ["thing"] _:=⟨_,_,zgi B F23 G_LAST_BEAT G_SILENT G_SOUND C_whole_in,b23,k23,PySem.W.mg_of X G a23⟩
 have C__law_two_right:yd l.prog w K mg base _ "_law_two_right" ["_law_one", "_law_other", "_law_most"] _:=⟨_,_,za7 B F33  C_silent_many C_either C_both C_other_way,b33,k33,PySem.W.mg_of X G a33⟩
 have C_longest_of:yd l.prog w K mg base _ "longest_of" ["story"] _:=⟨_,_,zeb B F12 hB hC hcd  ,b12,k12,PySem.W.mg_of X G a12⟩
 have C_stories_with:yd l.prog w K mg base _ "stories_with" ["n", "k"] _:=⟨_,_,zcg B F22 G_MOST_STORIES C_story_at C_silent_choices C_numbers_with,b22,k22,PySem.W.mg_of X G a22⟩
 have C_looks_good:yd l.prog w K mg base _ "looks_good" ["thing"] _:=⟨_,_,zed B F24 G_MOST_LOOKS C_look_good,b24,k24,PySem.W.mg_of X G a24⟩
 have C_holds:yd l.prog w K mg base _ "holds" ["story", "thing"] _:=⟨_,_,zoh B F25 G_SILENT C_silent_at C_looks_good,b25,k25,PySem.W.mg_of X G a25⟩
 have C__law_one_right:yd l.prog w K mg base _ "_law_one_right" ["_law_story", "_law_most"] _:=⟨_,_,za8 B F32  C_story_good C_story_of C_silent_at C_healed_at C_next_sound C_next_silent C_silent_many C_longest_of C_story_at C_number_of C__law_marks,b32,k32,PySem.W.mg_of X G a32⟩
 have C_story_for:yd l.prog w K mg base _ "story_for" ["looks"] _:=⟨_,_,zgk B F26 G_SOUND C_looks_good C_holds,b26,k26,PySem.W.mg_of X G a26⟩
 have C__law_looks_right:yd l.prog w K mg base _ "_law_looks_right" ["_law_story"] _:=⟨_,_,jv B F34  C_holds C_story_for,b34,k34,PySem.W.mg_of X G a34⟩
 exact zud B F35  C_silent_many C_later_by C_story_at C_stories_with C__law_cell_at C__law_pen_of C__law_draw C__law_marks C__law_one_right C__law_two_right C__law_looks_right
theorem nF{a d s}{g:FuncData}:(⟨a,d,.func g,s⟩:Obj)≠zca:=λz=>by cases z
theorem all_mkT{l:PySem.W.OpenLaw}{w:World}{K:PySem.W.Frag}{h:Heap}{mg:Str->Option Value}{fa f0 f1 f2 f3 f4 f5 f6 f7 f8 f9 f10 f11 f12 f13 f14 f15 f16 f17 f18 f19 f20 f21 f22 f23 f24 f25 f26 f27 f28 f29 f30 f31 f32 f33 f34 f35:Addr}(X:K.In h)(G:h.Ns mainGlobals mg)(hfa:mg "law" = some (.ref fa))
  {od0 an0:Option Addr}{sl0:Array (Option Value)}{oc0 kV0 dc0 pm0 cd0 ct0:Value}
  (a0:PySem.W.nsIn K mainGlobals "is_whole" = some (some (.ref f0))) (l0:K.lookup f0=some ⟨oc0,od0,.func (PySem.W.fnOf "is_whole" "is_whole" (zi xy) (zh xy) (zc xy) .none kV0 dc0 pm0 an0 cd0 ct0),sl0⟩) (c0:PySem.W.codeIn K cd0 "is_whole" = true) (k0:PySem.W.keepIn K (.ref f0)=true)
  {od1 an1:Option Addr}{sl1:Array (Option Value)}{oc1 kV1 dc1 pm1 cd1 ct1:Value}
  (a1:PySem.W.nsIn K mainGlobals "whole_in" = some (some (.ref f1))) (l1:K.lookup f1=some ⟨oc1,od1,.func (PySem.W.fnOf "whole_in" "whole_in" (zi xz) (zh xz) (zc xz) .none kV1 dc1 pm1 an1 cd1 ct1),sl1⟩) (c1:PySem.W.codeIn K cd1 "whole_in" = true) (k1:PySem.W.keepIn K (.ref f1)=true)
  {od2 an2:Option Addr}{sl2:Array (Option Value)}{oc2 kV2 dc2 pm2 cd2 ct2:Value}
  (a2:PySem.W.nsIn K mainGlobals "choices" = some (some (.ref f2))) (l2:K.lookup f2=some ⟨oc2,od2,.func (PySem.W.fnOf "choices" "choices" (zi wf) (zh wf) (zc wf) .none kV2 dc2 pm2 an2 cd2 ct2),sl2⟩) (c2:PySem.W.codeIn K cd2 "choices" = true) (k2:PySem.W.keepIn K (.ref f2)=true)
  {od3 an3:Option Addr}{sl3:Array (Option Value)}{oc3 kV3 dc3 pm3 cd3 ct3:Value}
  (a3:PySem.W.nsIn K mainGlobals "stretch_good" = some (some (.ref f3))) (l3:K.lookup f3=some ⟨oc3,od3,.func (PySem.W.fnOf "stretch_good" "stretch_good" (zi yu) (zh yu) (zc yu) .none kV3 dc3 pm3 an3 cd3 ct3),sl3⟩) (c3:PySem.W.codeIn K cd3 "stretch_good" = true) (k3:PySem.W.keepIn K (.ref f3)=true)
  {od4 an4:Option Addr}{sl4:Array (Option Value)}{oc4 kV4 dc4 pm4 cd4 ct4:Value}
  (a4:PySem.W.nsIn K mainGlobals "story_good" = some (some (.ref f4))) (l4:K.lookup f4=some ⟨oc4,od4,.func (PySem.W.fnOf "story_good" "story_good" (zi xb) (zh xb) (zc xb) .none kV4 dc4 pm4 an4 cd4 ct4),sl4⟩) (c4:PySem.W.codeIn K cd4 "story_good" = true) (k4:PySem.W.keepIn K (.ref f4)=true)
  {od5 an5:Option Addr}{sl5:Array (Option Value)}{oc5 kV5 dc5 pm5 cd5 ct5:Value}
  (a5:PySem.W.nsIn K mainGlobals "stretches_of" = some (some (.ref f5))) (l5:K.lookup f5=some ⟨oc5,od5,.func (PySem.W.fnOf "stretches_of" "stretches_of" (zi yv) (zh yv) (zc yv) .none kV5 dc5 pm5 an5 cd5 ct5),sl5⟩) (c5:PySem.W.codeIn K cd5 "stretches_of" = true) (k5:PySem.W.keepIn K (.ref f5)=true)
  {od6 an6:Option Addr}{sl6:Array (Option Value)}{oc6 kV6 dc6 pm6 cd6 ct6:Value}
  (a6:PySem.W.nsIn K mainGlobals "story_of" = some (some (.ref f6))) (l6:K.lookup f6=some ⟨oc6,od6,.func (PySem.W.fnOf "story_of" "story_of" (zi x0) (zh x0) (zc x0) .none kV6 dc6 pm6 an6 cd6 ct6),sl6⟩) (c6:PySem.W.codeIn K cd6 "story_of" = true) (k6:PySem.W.keepIn K (.ref f6)=true)
  {od7 an7:Option Addr}{sl7:Array (Option Value)}{oc7 kV7 dc7 pm7 cd7 ct7:Value}
  (a7:PySem.W.nsIn K mainGlobals "silent_at" = some (some (.ref f7))) (l7:K.lookup f7=some ⟨oc7,od7,.func (PySem.W.fnOf "silent_at" "silent_at" (zi xm) (zh xm) (zc xm) .none kV7 dc7 pm7 an7 cd7 ct7),sl7⟩) (c7:PySem.W.codeIn K cd7 "silent_at" = true) (k7:PySem.W.keepIn K (.ref f7)=true)
  {od8 an8:Option Addr}{sl8:Array (Option Value)}{oc8 kV8 dc8 pm8 cd8 ct8:Value}
  (a8:PySem.W.nsIn K mainGlobals "healed_at" = some (some (.ref f8))) (l8:K.lookup f8=some ⟨oc8,od8,.func (PySem.W.fnOf "healed_at" "healed_at" (zi xn) (zh xn) (zc xn) .none kV8 dc8 pm8 an8 cd8 ct8),sl8⟩) (c8:PySem.W.codeIn K cd8 "healed_at" = true) (k8:PySem.W.keepIn K (.ref f8)=true)
  {od9 an9:Option Addr}{sl9:Array (Option Value)}{oc9 kV9 dc9 pm9 cd9 ct9:Value}
  (a9:PySem.W.nsIn K mainGlobals "next_sound" = some (some (.ref f9))) (l9:K.lookup f9=some ⟨oc9,od9,.func (PySem.W.fnOf "next_sound" "next_sound" (zi xc) (zh xc) (zc xc) .none kV9 dc9 pm9 an9 cd9 ct9),sl9⟩) (c9:PySem.W.codeIn K cd9 "next_sound" = true) (k9:PySem.W.keepIn K (.ref f9)=true)
  {od10 an10:Option Addr}{sl10:Array (Option Value)}{oc10 kV10 dc10 pm10 cd10 ct10:Value}
  (a10:PySem.W.nsIn K mainGlobals "next_silent" = some (some (.ref f10))) (l10:K.lookup f10=some ⟨oc10,od10,.func (PySem.W.fnOf "next_silent" "next_silent" (zi y3) (zh y3) (zc y3) .none kV10 dc10 pm10 an10 cd10 ct10),sl10⟩) (c10:PySem.W.codeIn K cd10 "next_silent" = true) (k10:PySem.W.keepIn K (.ref f10)=true)
  {od11 an11:Option Addr}{sl11:Array (Option Value)}{oc11 kV11 dc11 pm11 cd11 ct11:Value}
  (a11:PySem.W.nsIn K mainGlobals "silent_many" = some (some (.ref f11))) (l11:K.lookup f11=some ⟨oc11,od11,.func (PySem.W.fnOf "silent_many" "silent_many" (zi y4) (zh y4) (zc y4) .none kV11 dc11 pm11 an11 cd11 ct11),sl11⟩) (c11:PySem.W.codeIn K cd11 "silent_many" = true) (k11:PySem.W.keepIn K (.ref f11)=true)
  {od12 an12:Option Addr}{sl12:Array (Option Value)}{oc12 kV12 dc12 pm12 cd12 ct12:Value}
  (a12:PySem.W.nsIn K mainGlobals "longest_of" = some (some (.ref f12))) (l12:K.lookup f12=some ⟨oc12,od12,.func (PySem.W.fnOf "longest_of" "longest_of" (zi xf) (zh xf) (zc xf) .none kV12 dc12 pm12 an12 cd12 ct12),sl12⟩) (c12:PySem.W.codeIn K cd12 "longest_of" = true) (k12:PySem.W.keepIn K (.ref f12)=true)
  {od13 an13:Option Addr}{sl13:Array (Option Value)}{oc13 kV13 dc13 pm13 cd13 ct13:Value}
  (a13:PySem.W.nsIn K mainGlobals "fitting" = some (some (.ref f13))) (l13:K.lookup f13=some ⟨oc13,od13,.func (PySem.W.fnOf "fitting" "fitting" (zi wg) (zh wg) (zc wg) .none kV13 dc13 pm13 an13 cd13 ct13),sl13⟩) (c13:PySem.W.codeIn K cd13 "fitting" = true) (k13:PySem.W.keepIn K (.ref f13)=true)
  {od14 an14:Option Addr}{sl14:Array (Option Value)}{oc14 kV14 dc14 pm14 cd14 ct14:Value}
  (a14:PySem.W.nsIn K mainGlobals "either" = some (some (.ref f14))) (l14:K.lookup f14=some ⟨oc14,od14,.func (PySem.W.fnOf "either" "either" (zi wt) (zh wt) (zc wt) .none kV14 dc14 pm14 an14 cd14 ct14),sl14⟩) (c14:PySem.W.codeIn K cd14 "either" = true) (k14:PySem.W.keepIn K (.ref f14)=true)
  {od15 an15:Option Addr}{sl15:Array (Option Value)}{oc15 kV15 dc15 pm15 cd15 ct15:Value}
  (a15:PySem.W.nsIn K mainGlobals "both" = some (some (.ref f15))) (l15:K.lookup f15=some ⟨oc15,od15,.func (PySem.W.fnOf "both" "both" (zi kl) (zh kl) (zc kl) .none kV15 dc15 pm15 an15 cd15 ct15),sl15⟩) (c15:PySem.W.codeIn K cd15 "both" = true) (k15:PySem.W.keepIn K (.ref f15)=true)
  {od16 an16:Option Addr}{sl16:Array (Option Value)}{oc16 kV16 dc16 pm16 cd16 ct16:Value}
  (a16:PySem.W.nsIn K mainGlobals "other_way" = some (some (.ref f16))) (l16:K.lookup f16=some ⟨oc16,od16,.func (PySem.W.fnOf "other_way" "other_way" (zi xo) (zh xo) (zc xo) .none kV16 dc16 pm16 an16 cd16 ct16),sl16⟩) (c16:PySem.W.codeIn K cd16 "other_way" = true) (k16:PySem.W.keepIn K (.ref f16)=true)
  {od17 an17:Option Addr}{sl17:Array (Option Value)}{oc17 kV17 dc17 pm17 cd17 ct17:Value}
  (a17:PySem.W.nsIn K mainGlobals "later_by" = some (some (.ref f17))) (l17:K.lookup f17=some ⟨oc17,od17,.func (PySem.W.fnOf "later_by" "later_by" (zi x3) (zh x3) (zc x3) .none kV17 dc17 pm17 an17 cd17 ct17),sl17⟩) (c17:PySem.W.codeIn K cd17 "later_by" = true) (k17:PySem.W.keepIn K (.ref f17)=true)
  {od18 an18:Option Addr}{sl18:Array (Option Value)}{oc18 kV18 dc18 pm18 cd18 ct18:Value}
  (a18:PySem.W.nsIn K mainGlobals "story_at" = some (some (.ref f18))) (l18:K.lookup f18=some ⟨oc18,od18,.func (PySem.W.fnOf "story_at" "story_at" (zi x4) (zh x4) (zc x4) .none kV18 dc18 pm18 an18 cd18 ct18),sl18⟩) (c18:PySem.W.codeIn K cd18 "story_at" = true) (k18:PySem.W.keepIn K (.ref f18)=true)
  {od19 an19:Option Addr}{sl19:Array (Option Value)}{oc19 kV19 dc19 pm19 cd19 ct19:Value}
  (a19:PySem.W.nsIn K mainGlobals "number_of" = some (some (.ref f19))) (l19:K.lookup f19=some ⟨oc19,od19,.func (PySem.W.fnOf "number_of" "number_of" (zi xp) (zh xp) (zc xp) .none kV19 dc19 pm19 an19 cd19 ct19),sl19⟩) (c19:PySem.W.codeIn K cd19 "number_of" = true) (k19:PySem.W.keepIn K (.ref f19)=true)
  {od20 an20:Option Addr}{sl20:Array (Option Value)}{oc20 kV20 dc20 pm20 cd20 ct20:Value}
  (a20:PySem.W.nsIn K mainGlobals "silent_choices" = some (some (.ref f20))) (l20:K.lookup f20=some ⟨oc20,od20,.func (PySem.W.fnOf "silent_choices" "silent_choices" (zi yo) (zh yo) (zc yo) .none kV20 dc20 pm20 an20 cd20 ct20),sl20⟩) (c20:PySem.W.codeIn K cd20 "silent_choices" = true) (k20:PySem.W.keepIn K (.ref f20)=true)
  {od21 an21:Option Addr}{sl21:Array (Option Value)}{oc21 kV21 dc21 pm21 cd21 ct21:Value}
  (a21:PySem.W.nsIn K mainGlobals "numbers_with" = some (some (.ref f21))) (l21:K.lookup f21=some ⟨oc21,od21,.func (PySem.W.fnOf "numbers_with" "numbers_with" (zi yw) (zh yw) (zc yw) .none kV21 dc21 pm21 an21 cd21 ct21),sl21⟩) (c21:PySem.W.codeIn K cd21 "numbers_with" = true) (k21:PySem.W.keepIn K (.ref f21)=true)
  {od22 an22:Option Addr}{sl22:Array (Option Value)}{oc22 kV22 dc22 pm22 cd22 ct22:Value}
  (a22:PySem.W.nsIn K mainGlobals "stories_with" = some (some (.ref f22))) (l22:K.lookup f22=some ⟨oc22,od22,.func (PySem.W.fnOf "stories_with" "stories_with" (zi yx) (zh yx) (zc yx) .none kV22 dc22 pm22 an22 cd22 ct22),sl22⟩) (c22:PySem.W.codeIn K cd22 "stories_with" = true) (k22:PySem.W.keepIn K (.ref f22)=true)
  {od23 an23:Option Addr}{sl23:Array (Option Value)}{oc23 kV23 dc23 pm23 cd23 ct23:Value}
  (a23:PySem.W.nsIn K mainGlobals "look_good" = some (some (.ref f23))) (l23:K.lookup f23=some ⟨oc23,od23,.func (PySem.W.fnOf "look_good" "look_good" (zi xq) (zh xq) (zc xq) .none kV23 dc23 pm23 an23 cd23 ct23),sl23⟩) (c23:PySem.W.codeIn K cd23 "look_good" = true) (k23:PySem.W.keepIn K (.ref f23)=true)
  {od24 an24:Option Addr}{sl24:Array (Option Value)}{oc24 kV24 dc24 pm24 cd24 ct24:Value}
  (a24:PySem.W.nsIn K mainGlobals "looks_good" = some (some (.ref f24))) (l24:K.lookup f24=some ⟨oc24,od24,.func (PySem.W.fnOf "looks_good" "looks_good" (zi xg) (zh xg) (zc xg) .none kV24 dc24 pm24 an24 cd24 ct24),sl24⟩) (c24:PySem.W.codeIn K cd24 "looks_good" = true) (k24:PySem.W.keepIn K (.ref f24)=true)
  {od25 an25:Option Addr}{sl25:Array (Option Value)}{oc25 kV25 dc25 pm25 cd25 ct25:Value}
  (a25:PySem.W.nsIn K mainGlobals "holds" = some (some (.ref f25))) (l25:K.lookup f25=some ⟨oc25,od25,.func (PySem.W.fnOf "holds" "holds" (zi vo) (zh vo) (zc vo) .none kV25 dc25 pm25 an25 cd25 ct25),sl25⟩) (c25:PySem.W.codeIn K cd25 "holds" = true) (k25:PySem.W.keepIn K (.ref f25)=true)
  {od26 an26:Option Addr}{sl26:Array (Option Value)}{oc26 kV26 dc26 pm26 cd26 ct26:Value}
  (a26:PySem.W.nsIn K mainGlobals "story_for" = some (some (.ref f26))) (l26:K.lookup f26=some ⟨oc26,od26,.func (PySem.W.fnOf "story_for" "story_for" (zi xr) (zh xr) (zc xr) .none kV26 dc26 pm26 an26 cd26 ct26),sl26⟩) (c26:PySem.W.codeIn K cd26 "story_for" = true) (k26:PySem.W.keepIn K (.ref f26)=true)
  {od27 an27:Option Addr}{sl27:Array (Option Value)}{oc27 kV27 dc27 pm27 cd27 ct27:Value}
  (a27:PySem.W.nsIn K mainGlobals "_law_cell_at" = some (some (.ref f27))) (l27:K.lookup f27=some ⟨oc27,od27,.func (PySem.W.fnOf "_law_cell_at" "_law_cell_at" (zi yy) (zh yy) (zc yy) .none kV27 dc27 pm27 an27 cd27 ct27),sl27⟩) (c27:PySem.W.codeIn K cd27 "_law_cell_at" = true) (k27:PySem.W.keepIn K (.ref f27)=true)
  {od28 an28:Option Addr}{sl28:Array (Option Value)}{oc28 kV28 dc28 pm28 cd28 ct28:Value}
  (a28:PySem.W.nsIn K mainGlobals "_law_next" = some (some (.ref f28))) (l28:K.lookup f28=some ⟨oc28,od28,.func (PySem.W.fnOf "_law_next" "_law_next" (zi xt) (zh xt) (zc xt) .none kV28 dc28 pm28 an28 cd28 ct28),sl28⟩) (c28:PySem.W.codeIn K cd28 "_law_next" = true) (k28:PySem.W.keepIn K (.ref f28)=true)
  {od29 an29:Option Addr}{sl29:Array (Option Value)}{oc29 kV29 dc29 pm29 cd29 ct29:Value}
  (a29:PySem.W.nsIn K mainGlobals "_law_pen_of" = some (some (.ref f29))) (l29:K.lookup f29=some ⟨oc29,od29,.func (PySem.W.fnOf "_law_pen_of" "_law_pen_of" (zi y6) (zh y6) (zc y6) .none kV29 dc29 pm29 an29 cd29 ct29),sl29⟩) (c29:PySem.W.codeIn K cd29 "_law_pen_of" = true) (k29:PySem.W.keepIn K (.ref f29)=true)
  {od30 an30:Option Addr}{sl30:Array (Option Value)}{oc30 kV30 dc30 pm30 cd30 ct30:Value}
  (a30:PySem.W.nsIn K mainGlobals "_law_draw" = some (some (.ref f30))) (l30:K.lookup f30=some ⟨oc30,od30,.func (PySem.W.fnOf "_law_draw" "_law_draw" (zi xu) (zh xu) (zc xu) .none kV30 dc30 pm30 an30 cd30 ct30),sl30⟩) (c30:PySem.W.codeIn K cd30 "_law_draw" = true) (k30:PySem.W.keepIn K (.ref f30)=true)
  {od31 an31:Option Addr}{sl31:Array (Option Value)}{oc31 kV31 dc31 pm31 cd31 ct31:Value}
  (a31:PySem.W.nsIn K mainGlobals "_law_marks" = some (some (.ref f31))) (l31:K.lookup f31=some ⟨oc31,od31,.func (PySem.W.fnOf "_law_marks" "_law_marks" (zi xh) (zh xh) (zc xh) .none kV31 dc31 pm31 an31 cd31 ct31),sl31⟩) (c31:PySem.W.codeIn K cd31 "_law_marks" = true) (k31:PySem.W.keepIn K (.ref f31)=true)
  {od32 an32:Option Addr}{sl32:Array (Option Value)}{oc32 kV32 dc32 pm32 cd32 ct32:Value}
  (a32:PySem.W.nsIn K mainGlobals "_law_one_right" = some (some (.ref f32))) (l32:K.lookup f32=some ⟨oc32,od32,.func (PySem.W.fnOf "_law_one_right" "_law_one_right" (zi yp) (zh yp) (zc yp) .none kV32 dc32 pm32 an32 cd32 ct32),sl32⟩) (c32:PySem.W.codeIn K cd32 "_law_one_right" = true) (k32:PySem.W.keepIn K (.ref f32)=true)
  {od33 an33:Option Addr}{sl33:Array (Option Value)}{oc33 kV33 dc33 pm33 cd33 ct33:Value}
  (a33:PySem.W.nsIn K mainGlobals "_law_two_right" = some (some (.ref f33))) (l33:K.lookup f33=some ⟨oc33,od33,.func (PySem.W.fnOf "_law_two_right" "_law_two_right" (zi yq) (zh yq) (zc yq) .none kV33 dc33 pm33 an33 cd33 ct33),sl33⟩) (c33:PySem.W.codeIn K cd33 "_law_two_right" = true) (k33:PySem.W.keepIn K (.ref f33)=true)
  {od34 an34:Option Addr}{sl34:Array (Option Value)}{oc34 kV34 dc34 pm34 cd34 ct34:Value}
  (a34:PySem.W.nsIn K mainGlobals "_law_looks_right" = some (some (.ref f34))) (l34:K.lookup f34=some ⟨oc34,od34,.func (PySem.W.fnOf "_law_looks_right" "_law_looks_right" (zi yh) (zh yh) (zc yh) .none kV34 dc34 pm34 an34 cd34 ct34),sl34⟩) (c34:PySem.W.codeIn K cd34 "_law_looks_right" = true) (k34:PySem.W.keepIn K (.ref f34)=true)
  {od35 an35:Option Addr}{sl35:Array (Option Value)}{oc35 kV35 dc35 pm35 cd35 ct35:Value}
  (a35:PySem.W.nsIn K mainGlobals "law" = some (some (.ref f35))) (l35:K.lookup f35=some ⟨oc35,od35,.func (PySem.W.fnOf "law" "law" (zi kw) (zh kw) (zc kw) .none kV35 dc35 pm35 an35 cd35 ct35),sl35⟩) (c35:PySem.W.codeIn K cd35 "law" = true) (k35:PySem.W.keepIn K (.ref f35)=true)
  (z_len:PySem.W.nsIn K mainGlobals "len" = some none)
  (z_range:PySem.W.nsIn K mainGlobals "range" = some none)
  (z_enumerate:PySem.W.nsIn K mainGlobals "enumerate" = some none)
  (z_sum:PySem.W.nsIn K mainGlobals "sum" = some none)
  (z_min:PySem.W.nsIn K mainGlobals "min" = some none)
  (z_max:PySem.W.nsIn K mainGlobals "max" = some none)
  (z_isinstance:PySem.W.nsIn K mainGlobals "isinstance" = some none)
  (z_any:PySem.W.nsIn K mainGlobals "any" = some none)
  (z_all:PySem.W.nsIn K mainGlobals "all" = some none)
  (z_sorted:PySem.W.nsIn K mainGlobals "sorted" = some none)
  (z_reversed:PySem.W.nsIn K mainGlobals "reversed" = some none)
  (z_tupleT:PySem.W.nsIn K mainGlobals "tuple" = some none)
  (z_intT:PySem.W.nsIn K mainGlobals "int" = some none)
  (z_boolT:PySem.W.nsIn K mainGlobals "bool" = some none)
  (z_setT:PySem.W.nsIn K mainGlobals "set" = some none)
  {t_LAST_BEAT:Tok} (y_LAST_BEAT:PySem.W.nsIn K mainGlobals "LAST_BEAT" = some (some (.int 1000000 t_LAST_BEAT)))
  {t_MOST_STRETCHES:Tok} (y_MOST_STRETCHES:PySem.W.nsIn K mainGlobals "MOST_STRETCHES" = some (some (.int 200 t_MOST_STRETCHES)))
  {t_MOST_STORIES:Tok} (y_MOST_STORIES:PySem.W.nsIn K mainGlobals "MOST_STORIES" = some (some (.int 300 t_MOST_STORIES)))
  {t_MOST_LOOKS:Tok} (y_MOST_LOOKS:PySem.W.nsIn K mainGlobals "MOST_LOOKS" = some (some (.int 12 t_MOST_LOOKS)))
  {t_SILENT:Tok} (y_SILENT:PySem.W.nsIn K mainGlobals "SILENT" = some (some (.str "silent" t_SILENT)))
  {t_SOUND:Tok} (y_SOUND:PySem.W.nsIn K mainGlobals "SOUND" = some (some (.str "sound" t_SOUND)))
  {c T:Addr}{ocT:Obj} (hcd:cd12=.ref c) (lc:K.lookup c=some ocT) (hO:HdO ocT T) (hne:c≠T) (gT0:h.get? T=some zca):∃fd:FuncData,(∀(s:Shared) (v:Value),BindsTo s fd ⟨[v],[]⟩ [("_law_script",v)])/\∃(c:Addr) (oc:Obj),K.lookup c=some oc/\HdO oc T/\c≠T/\∀base:Heap,(wl T K).In base->base.Ns mainGlobals mg->jf mg base->PySem.W.CodeHd base c T->FnOk l.prog w (wl T K) mg base CX0 8 fa fd ["_law_script"] (qf "longest_of.<locals>.<lambda>" T (z4 (wl T K) zdp)):=by
 have gT:mainGlobals≠T:=znu G gT0;obtain⟨fd,hb,hF⟩:=zuf (l:=l) (w:=w) (K:=wl T K) (c:=c) (T:=T) (zkm X) G hfa ((zo gT).trans a0) (z9 X gT0 l0 nF) (zr X gT0 c0) (zt X gT0 l0) ((zo gT).trans a1) (z9 X gT0 l1 nF) (zr X gT0 c1) (zt X gT0 l1) ((zo gT).trans a2) (z9 X gT0 l2 nF) (zr X gT0 c2) (zt X gT0 l2) ((zo gT).trans a3) (z9 X gT0 l3 nF) (zr X gT0 c3) (zt X gT0 l3) ((zo gT).trans a4) (z9 X gT0 l4 nF) (zr X gT0 c4) (zt X gT0 l4) ((zo gT).trans a5) (z9 X gT0 l5 nF) (zr X gT0 c5) (zt X gT0 l5) ((zo gT).trans a6) (z9 X gT0 l6 nF) (zr X gT0 c6) (zt X gT0 l6) ((zo gT).trans a7) (z9 X gT0 l7 nF) (zr X gT0 c7) (zt X gT0 l7) ((zo gT).trans a8) (z9 X gT0 l8 nF) (zr X gT0 c8) (zt X gT0 l8) ((zo gT).trans a9) (z9 X gT0 l9 nF) (zr X gT0 c9) (zt X gT0 l9) ((zo gT).trans a10) (z9 X gT0 l10 nF) (zr X gT0 c10) (zt X gT0 l10) ((zo gT).trans a11) (z9 X gT0 l11 nF) (zr X gT0 c11) (zt X gT0 l11) ((zo gT).trans a12) (z9 X gT0 l12 nF) (zr X gT0 c12) (zt X gT0 l12) ((zo gT).trans a13) (z9 X gT0 l13 nF) (zr X gT0 c13) (zt X gT0 l13) ((zo gT).trans a14) (z9 X gT0 l14 nF) (zr X gT0 c14) (zt X gT0 l14) ((zo gT).trans a15) (z9 X gT0 l15 nF) (zr X gT0 c15) (zt X gT0 l15) ((zo gT).trans a16) (z9 X gT0 l16 nF) (zr X gT0 c16) (zt X gT0 l16) ((zo gT).trans a17) (z9 X gT0 l17 nF) (zr X gT0 c17) (zt X gT0 l17) ((zo gT).trans a18) (z9 X gT0 l18 nF) (zr X gT0 c18) (zt X gT0 l18) ((zo gT).trans a19) (z9 X gT0 l19 nF) (zr X gT0 c19) (zt X gT0 l19) ((zo gT).trans a20) (z9 X gT0 l20 nF) (zr X gT0 c20) (zt X gT0 l20) ((zo gT).trans a21) (z9 X gT0 l21 nF) (zr X gT0 c21) (zt X gT0 l21) ((zo gT).trans a22) (z9 X gT0 l22 nF) (zr X gT0 c22) (zt X gT0 l22) ((zo gT).trans a23) (z9 X gT0 l23 nF) (zr X gT0 c23) (zt X gT0 l23) ((zo gT).trans a24) (z9 X gT0 l24 nF) (zr X gT0 c24) (zt X gT0 l24) ((zo gT).trans a25) (z9 X gT0 l25 nF) (zr X gT0 c25) (zt X gT0 l25) ((zo gT).trans a26) (z9 X gT0 l26 nF) (zr X gT0 c26) (zt X gT0 l26) ((zo gT).trans a27) (z9 X gT0 l27 nF) (zr X gT0 c27) (zt X gT0 l27) ((zo gT).trans a28) (z9 X gT0 l28 nF) (zr X gT0 c28) (zt X gT0 l28) ((zo gT).trans a29) (z9 X gT0 l29 nF) (zr X gT0 c29) (zt X gT0 l29) ((zo gT).trans a30) (z9 X gT0 l30 nF) (zr X gT0 c30) (zt X gT0 l30) ((zo gT).trans a31) (z9 X gT0 l31 nF) (zr X gT0 c31) (zt X gT0 l31) ((zo gT).trans a32) (z9 X gT0 l32 nF) (zr X gT0 c32) (zt X gT0 l32) ((zo gT).trans a33) (z9 X gT0 l33 nF) (zr X gT0 c33) (zt X gT0 l33) ((zo gT).trans a34) (z9 X gT0 l34 nF) (zr X gT0 c34) (zt X gT0 l34) ((zo gT).trans a35) (z9 X gT0 l35 nF) (zr X gT0 c35) (zt X gT0 l35) ((zo gT).trans z_len) ((zo gT).trans z_range) ((zo gT).trans z_enumerate) ((zo gT).trans z_sum) ((zo gT).trans z_min) ((zo gT).trans z_max) ((zo gT).trans z_isinstance) ((zo gT).trans z_any) ((zo gT).trans z_all) ((zo gT).trans z_sorted) ((zo gT).trans z_reversed) ((zo gT).trans z_tupleT) ((zo gT).trans z_intT) ((zo gT).trans z_boolT) ((zo gT).trans z_setT) ((zo gT).trans y_LAST_BEAT) ((zo gT).trans y_MOST_STRETCHES) ((zo gT).trans y_MOST_STORIES) ((zo gT).trans y_MOST_LOOKS) ((zo gT).trans y_SILENT) ((zo gT).trans y_SOUND) hcd
 exact⟨fd,hb,c,ocT,lc,hO,hne,hF⟩
theorem walk{l:PySem.W.OpenLaw}{q:Program}{loose:List Str}{XP:(Str->Option Value)->Heap->Prop}{YP:World->Heap->Prop}{d:DefRec}{K:Params->PySem.W.Frag}{T:Addr}(hn:l.most=some 63)(hdf:d.params.defaults = [])
  (hY:∀(w:World) (h:Heap),YP w h->(K w.params).In h/\h.get? T=some zca)
  (F:∀(w:World) (mg:Str->Option Value) (fa:Addr) (h:Heap),(K w.params).In h->h.get? T=some zca->h.Ns mainGlobals mg->mg d.name=some (.ref fa) ->
   ∃fd:FuncData,(∀(s:Shared) (u:Value),BindsTo s fd ⟨[u],[]⟩ [("_law_script",u)])/\∃(c:Addr) (oc:Obj),(K w.params).lookup c=some oc/\HdO oc T/\c≠T /\
    ∀base:Heap,(wl T (K w.params)).In base->base.Ns mainGlobals mg->jf mg base->PySem.W.CodeHd base c T->FnOk l.prog w (wl T (K w.params)) mg base CX0 8 fa fd ["_law_script"] (qf "longest_of.<locals>.<lambda>" T (z4 (wl T (K w.params)) zdp))) :
  PySem.W.WalkO q loose XP YP l.row.toRowW d [] (λf vs=>PySem.call f vs) :=
 L2.walk_ofT (n:=63) (k:=8) (x := "_law_script") (q := "longest_of.<locals>.<lambda>") (sp:=λw=>z4 (wl T (K w.params)) zdp) hn (by decide) hdf ⟨rfl,by decide,by decide,rfl⟩ hY F (λ_ _ a ns hl hS=>⟨[.scr ns],λr=>r=.val (.bool true),.cons ⟨a,rfl,hS⟩ .nil,⟨ns,rfl,hl,rfl⟩,λv H' r _ rp e=>by subst e;cases rp;rfl⟩)
end My
namespace PySem.W.Fast
def tw3111323620033379986:=()
def tw3616818466836003992:=()
def tw12838123728367661435:=()
def tw1765838154383305962:=()
def tw18341885217426268857:=()
def tw12589156507953410715:=()
def tw731630953711155596:=()
def tw4092551934558860371:=()
def tw10724080085979139712:=()
def tw3222631708515944583:=()
def tw14817571242895682178:=()
def tw14295087979248975568:=()
def tw17551875838085568226:=()
def tw13218177109613822475:=()
def tw12122311857742869121:=()
def tw1854307305500449926:=()
def tw3257600418218308148:=()
def tw14537458495399434174:=()
def tw7428024790152100258:=()
def tw11625227419561425533:=()
def tw16263002225652056063:=()
def tw9280124524777291956:=()
def tw3621865772190440492:=()
def tw49717167299342378:=()
def tw17518934030341783913:=()
def tw2462459605402688255:=()
def tw1654065448254247623:=()
def tw6568669322246539118:=()
def tw6403558864451744795:=()
def tw13772415428705208479:=()
def tw2897418227278335702:=()
def tw13202627827376382787:=()
def tw9095216992550460810:=()
def tw8021393301358625483:=()
def tw13286275997639315111:=()
def tw2968065228886379654:=()
def tw13965610489616645549:=()
def tw8570530278813183660:=()
def tw15300664167726140488:=()
def tw8556054443144697084:=()
def tw17486710769416241045:=()
def tw14646619366295722568:=()
def tw16244517532200608420:=()
def tw12255690648773857632:=()
def tw9576044413449287324:=()
def tw16211834533957925662:=()
def tw11257607212931641544:=()
def tw10297949960678365827:=()
def tw14017185317024753643:=()
def tw5138598461039792799:=()
def tw1054908360479196379:=()
def tw17906846863840413252:=()
def tw9897394956257459874:=()
def tw1255184137653238021:=()
def tw13704125944465076284:=()
def tw5248575203196807895:=()
def tw11130977658134952914:=()
def tw16717869364946345335:=()
def tw16050012120705305271:=()
def tw14216108633834478559:=()
def tw11961546162864184475:=()
def tw2063361822021420107:=()
def tw5789624081383480394:=()
def tw753408780767030530:=()
def tw12856826436140343840:=()
def tw10540777097159920007:=()
def tw6427349308364359214:=()
def tw17251119323023076728:=()
def tw278891455040747875:=()
def tw10215734795552974742:=()
def tw6275035042710627846:=()
def tw7979882012717608845:=()
def tw6713643690656964514:=()
def tw15421819149334273927:=()
def tw12886454973974302977:=()
def tw7413833113796497754:=()
def tw7552678328059837333:=()
def tw12059703776128601978:=()
def tw13143573757609682553:=()
def tw2345924376426152954:=()
def tw11006835407304081308:=()
def tw17573317168339988118:=()
def tw10103723935689221538:=()
def tw10234467830624282275:=()
def tw183892259461901836:=()
def tw6614501302335452130:=()
def tw7793561562017204475:=()
def tw2667030940652693020:=()
def tw11480807631834894910:=()
def tw10966663335903604834:=()
def tw15250056713773310505:=()
def tw6529005361399357621:=()
def tw16099655496737917590:=()
def tw16637165038686756075:=()
def tw7783301608100771553:=()
def tw14637381798189058777:=()
def tw18048130320303802646:=()
def tw14771435076940682021:=()
def tw3012654774880237348:=()
def tw2335749273904805479:=()
def tw14356270096699123991:=()
def tw14051833140254389786:=()
def tw9869921357712832642:=()
def tw16855882317520112786:=()
def tw13300203689357751900:=()
def tw17055741716039179752:=()
def tw10912462542990966941:=()
def tw4276777840219816699:=()
end PySem.W.Fast
open PySem PySem.W PyProof.Rows
set_option maxRecDepth 100000 in
set_option maxHeartbeats 0 in
theorem PySem.Challenge.cw_knockpurse_k17_whole_stories_holds : PySem.Challenge.rw_knockpurse_k17_whole_stories.Holds := by
 w_on;o_law;k_head;(case hw=>w_witness2)
 k_fill
 refine My.walk (l:=PySem.Challenge.rw_knockpurse_k17_whole_stories) rfl rfl (λw h Y=>⟨PySem.W.km_in_of Y,PySem.W.km_tabs_of Y _ (.head _)⟩) ?F
 case F=>
  intro w mg fa h KX GT G hmg
  refine' My.all_mkT KX G hmg ?a0 ?l0 ?c0 ?k0 ?a1 ?l1 ?c1 ?k1 ?a2 ?l2 ?c2 ?k2 ?a3 ?l3 ?c3 ?k3 ?a4 ?l4 ?c4 ?k4 ?a5 ?l5 ?c5 ?k5 ?a6 ?l6 ?c6 ?k6 ?a7 ?l7 ?c7 ?k7 ?a8 ?l8 ?c8 ?k8 ?a9 ?l9 ?c9 ?k9 ?a10 ?l10 ?c10 ?k10 ?a11 ?l11 ?c11 ?k11 ?a12 ?l12 ?c12 ?k12 ?a13 ?l13 ?c13 ?k13 ?a14 ?l14 ?c14 ?k14 ?a15 ?l15 ?c15 ?k15 ?a16 ?l16 ?c16 ?k16 ?a17 ?l17 ?c17 ?k17 ?a18 ?l18 ?c18 ?k18 ?a19 ?l19 ?c19 ?k19 ?a20 ?l20 ?c20 ?k20 ?a21 ?l21 ?c21 ?k21 ?a22 ?l22 ?c22 ?k22 ?a23 ?l23 ?c23 ?k23 ?a24 ?l24 ?c24 ?k24 ?a25 ?l25 ?c25 ?k25 ?a26 ?l26 ?c26 ?k26 ?a27 ?l27 ?c27 ?k27 ?a28 ?l28 ?c28 ?k28 ?a29 ?l29 ?c29 ?k29 ?a30 ?l30 ?c30 ?k30 ?a31 ?l31 ?c31 ?k31 ?a32 ?l32 ?c32 ?k32 ?a33 ?l33 ?c33 ?k33 ?a34 ?l34 ?c34 ?k34 ?a35 ?l35 ?c35 ?k35 ?z_len ?z_range ?z_enumerate ?z_sum ?z_min ?z_max ?z_isinstance ?z_any ?z_all ?z_sorted ?z_reversed ?z_tupleT ?z_intT ?z_boolT ?z_setT ?y_LAST_BEAT ?y_MOST_STRETCHES ?y_MOST_STORIES ?y_MOST_LOOKS ?y_SILENT ?y_SOUND  ?hcd ?lc ?hO ?hne GT
  (case a0=>k_is);(case l0=>k_is);(case c0=>k_is);(case k0=>k_is)
  (case a1=>k_is);(case l1=>k_is);(case c1=>k_is);(case k1=>k_is)
  (case a2=>k_is);(case l2=>k_is);(case c2=>k_is);(case k2=>k_is)
  (case a3=>k_is);(case l3=>k_is);(case c3=>k_is);(case k3=>k_is)
  (case a4=>k_is);(case l4=>k_is);(case c4=>k_is);(case k4=>k_is)
  (case a5=>k_is);(case l5=>k_is);(case c5=>k_is);(case k5=>k_is)
  (case a6=>k_is);(case l6=>k_is);(case c6=>k_is);(case k6=>k_is)
  (case a7=>k_is);(case l7=>k_is);(case c7=>k_is);(case k7=>k_is)
  (case a8=>k_is);(case l8=>k_is);(case c8=>k_is);(case k8=>k_is)
  (case a9=>k_is);(case l9=>k_is);(case c9=>k_is);(case k9=>k_is)
  (case a10=>k_is);(case l10=>k_is);(case c10=>k_is);(case k10=>k_is)
  (case a11=>k_is);(case l11=>k_is);(case c11=>k_is);(case k11=>k_is)
  (case a12=>k_is);(case l12=>k_is);(case c12=>k_is);(case k12=>k_is)
  (case a13=>k_is);(case l13=>k_is);(case c13=>k_is);(case k13=>k_is)
  (case a14=>k_is);(case l14=>k_is);(case c14=>k_is);(case k14=>k_is)
  (case a15=>k_is);(case l15=>k_is);(case c15=>k_is);(case k15=>k_is)
  (case a16=>k_is);(case l16=>k_is);(case c16=>k_is);(case k16=>k_is)
  (case a17=>k_is);(case l17=>k_is);(case c17=>k_is);(case k17=>k_is)
  (case a18=>k_is);(case l18=>k_is);(case c18=>k_is);(case k18=>k_is)
  (case a19=>k_is);(case l19=>k_is);(case c19=>k_is);(case k19=>k_is)
  (case a20=>k_is);(case l20=>k_is);(case c20=>k_is);(case k20=>k_is)
  (case a21=>k_is);(case l21=>k_is);(case c21=>k_is);(case k21=>k_is)
  (case a22=>k_is);(case l22=>k_is);(case c22=>k_is);(case k22=>k_is)
  (case a23=>k_is);(case l23=>k_is);(case c23=>k_is);(case k23=>k_is)
  (case a24=>k_is);(case l24=>k_is);(case c24=>k_is);(case k24=>k_is)
  (case a25=>k_is);(case l25=>k_is);(case c25=>k_is);(case k25=>k_is)
  (case a26=>k_is);(case l26=>k_is);(case c26=>k_is);(case k26=>k_is)
  (case a27=>k_is);(case l27=>k_is);(case c27=>k_is);(case k27=>k_is)
  (case a28=>k_is);(case l28=>k_is);(case c28=>k_is);(case k28=>k_is)
  (case a29=>k_is);(case l29=>k_is);(case c29=>k_is);(case k29=>k_is)
  (case a30=>k_is);(case l30=>k_is);(case c30=>k_is);(case k30=>k_is)
  (case a31=>k_is);(case l31=>k_is);(case c31=>k_is);(case k31=>k_is)
  (case a32=>k_is);(case l32=>k_is);(case c32=>k_is);(case k32=>k_is)
  (case a33=>k_is);(case l33=>k_is);(case c33=>k_is);(case k33=>k_is)
  (case a34=>k_is);(case l34=>k_is);(case c34=>k_is);(case k34=>k_is)
  (case a35=>k_is);(case l35=>k_is);(case c35=>k_is);(case k35=>k_is)
  (case z_len=>k_is)
  (case z_range=>k_is)
  (case z_enumerate=>k_is)
  (case z_sum=>k_is)
  (case z_min=>k_is)
  (case z_max=>k_is)
  (case z_isinstance=>k_is)
  (case z_any=>k_is)
  (case z_all=>k_is)
  (case z_sorted=>k_is)
  (case z_reversed=>k_is)
  (case z_tupleT=>k_is)
  (case z_intT=>k_is)
  (case z_boolT=>k_is)
  (case z_setT=>k_is)
  (case y_LAST_BEAT=>k_is)
  (case y_MOST_STRETCHES=>k_is)
  (case y_MOST_STORIES=>k_is)
  (case y_MOST_LOOKS=>k_is)
  (case y_SILENT=>k_is)
  (case y_SOUND=>k_is)
  (case hcd=>rfl)
  (case lc=>k_is)
  (case hO=>exact⟨_,_,_,_,_,_,_,_,rfl,rfl,rfl,rfl,rfl,rfl,rfl,rfl⟩)
  (case hne=>decide)
