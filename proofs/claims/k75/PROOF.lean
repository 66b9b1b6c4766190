import PyProof.Rows.All
import PyProof.StrReplace2
import Wide.All
import OpenK.AllK
import Wide.FinOn
import Lean
import PyProof.EqAt
import PyProof.EqKinds
import PyProof.TupleCall
import PyProof.ListMulRoad
import PyProof.Lay0
import PyProof.Rows.EqDataRows
import PyProof.ReprRoads
import PyProof.Rows.MinMaxN
import PyProof.ReprLen
import PyProof.FitsInt
import PyProof.MinMaxWalk
import KE.KRevSl
import KE.KRevIter
import PyProof.ListRange
import PyProof.Sched
import PyProof.Rows.SortShellK
import PyProof.Rows.SortRunK
import PyProof.Rows.SortRuns
import PyProof.TupleOfSeq
import PyProof.RulesAs
import OpenK.KDescr
import OpenK.KOwn
import KE.KIsNot
import KE.KIsAll
import PyProof.Rows.SetFrom
import PyProof.WalksMore
import PyProof.CollectWalk
import KE.KLam
import KE.KMinKey
import KE.KSortKey
import KE.KDictList
import KE.KDictOf
import PyProof.Rows.Range3
import PyProof.FactsAll.range
import PyProof.Rows.StrLen
import PyProof.Rows.StrCase
import PyProof.StrBlock2
import PyProof.Rows.StrRules
import PyProof.Rows.RegReprOcc
import PyProof.AttrMissSeq
import PyProof.DictWalks
import KE.KEqDict
import PyProof.ExcInit
import PyProof.ExcClass3
import PyProof.InstStoreFacts
import PySem.Challenge.RW_knockpurse_k75_the_least_silence
set_option Elab.async false
set_option linter.all false
set_option maxRecDepth 100000
namespace L2
open PySem PySem.Spec PyProof.Rows
abbrev Key:=Sum Int Str
def zru:Key->Value->Bool
 |.inl k,v=>Value.isInt k v
 |.inr x,v=>Value.isStrOf x v
def zwr(w:World):Key->Int
 |.inl k=>hashInt k
 |.inr x=>hashStr w x
theorem xw:∀{k:Key}{v:Value},zru k v=true->(∃i t,k=Sum.inl i/\v=Value.int i t)\/(∃x t,k=Sum.inr x/\v=Value.str x t)
 |.inl i,v,h=>by
  obtain⟨t,e⟩:=Value.isInt_shape (k:=i) (v:=v) h;exact .inl ⟨i,t,rfl,e⟩
 |.inr x,v,h=>by
  obtain⟨t,e⟩:=Value.isStrOf_shape (x:=x) (v:=v) h;exact .inr ⟨x,t,rfl,e⟩
theorem zsj(a b:Int):decide ((Sum.inl a:Key)=Sum.inl b)=(a == b):=by
 by_cases e:a=b
 ·subst e;simp
 ·have h:¬ (Sum.inl a:Key)=Sum.inl b:=λq=>e (Sum.inl.inj q);rw[decide_eq_false h];exact(beq_eq_false_iff_ne.mpr e).symm
theorem zsk(a b:Str):decide ((Sum.inr a:Key)=Sum.inr b)=decide (a=b):=by
 by_cases e:a=b
 ·subst e;simp
 ·have h:¬ (Sum.inr a:Key)=Sum.inr b:=λq=>e (Sum.inr.inj q);rw[decide_eq_false h,decide_eq_false e]
theorem zsl(a:Int)(b:Str):decide ((Sum.inl a:Key)=Sum.inr b)=false:=decide_eq_false (λq=>nomatch q)
theorem zsm(a:Str)(b:Int):decide ((Sum.inr a:Key)=Sum.inl b)=false:=decide_eq_false (λq=>nomatch q)
def zf7(prog:Program)(w:World):PySem.KeyKind prog w Key where
 is:=zru
 hash:=zwr w
 inj:=λv a b ha hb=>by
  rcases xw ha with⟨i,t,rfl,rfl⟩ |⟨x,t,rfl,rfl⟩
  ·rcases xw hb with⟨j,u,rfl,e⟩ |⟨y,u,rfl,e⟩
   ·injection e with e1 _;rw[e1]
   ·exact nomatch e
  ·rcases xw hb with⟨j,u,rfl,e⟩ |⟨y,u,rfl,e⟩
   ·exact nomatch e
   ·injection e with e1 _;rw[e1]
 byValue:=λk v h=>by
  rcases xw h with⟨i,t,rfl,rfl⟩ |⟨x,t,rfl,rfl⟩ <;> rfl
 pyHash:=λhv h=>by
  rcases xw hv with⟨i,t,rfl,rfl⟩ |⟨x,t,rfl,rfl⟩
  ·exact wpAny_pyHash_int h
  ·exact wpAny_pyHash_str h
 eqBool:=λhu hv h=>by
  rcases xw hu with⟨i,t,rfl,rfl⟩ |⟨x,t,rfl,rfl⟩
  ·rcases xw hv with⟨j,u,rfl,rfl⟩ |⟨y,u,rfl,rfl⟩
   ·rw[zsj]at h;exact wpAny_eqBool_int h
   ·rw[zsl]at h;exact SeqAt.EqAt.int_str i t y u _ _ _ _ h
  ·rcases xw hv with⟨j,u,rfl,rfl⟩ |⟨y,u,rfl,rfl⟩
   ·rw[zsm]at h;exact SeqAt.EqAt.str_int x t j u _ _ _ _ h
   ·rw[zsk]at h;exact wpAny_eqBool_str h
 «strs»:=λk x t v h=>by
  rcases xw h with⟨i,u,rfl,e⟩ |⟨y,u,rfl,e⟩
  ·exact nomatch e
  ·injection e with e1 _
   subst e1
   cases v <;> rfl
inductive V where
 |non|bl (b:Bool)|int (i:Int)|str (x:Str)|byt (b:Array UInt8)|flt (b:UInt64)|ref (a:Addr)|ty (n:String)
 deriving DecidableEq
def RelV:V->Value->Prop
 |.non,u=>u=Value.none
 |.bl b,u=>u=Value.bool b
 |.int i,u=>∃t,u=Value.int i t
 |.str x,u=>∃t,u=Value.str x t
 |.byt b,u=>∃t,u=Value.bytes b t
 |.flt b,u=>∃t,u=Value.float b t
 |.ref a,u=>u=Value.ref a
 |.ty n,u=>u=Value.type n
abbrev Vals:List V->List Value->Prop:=Paired RelV
theorem Vals.length{xs:List V}{us:List Value}(r:Vals xs us):xs.length=us.length:=Paired.length r
theorem Vals.get:∀{xs:List V}{us:List Value}{i:Nat}{x:V},Vals xs us->xs[i]?=some x->∃u,us[i]?=some u/\RelV x u
 |_,_,_,_,.nil,e=>by simp at e
 |_,_,0,_,.cons r _,e=>by simp at e;subst e;exact⟨_,rfl,r⟩
 |_,_,i+1,x,.cons _ t,e=>by
  obtain⟨u,h1,h2⟩:=Vals.get (i:=i) (x:=x) t (by simpa using e);exact⟨u,by simpa using h1,h2⟩
theorem Vals.set{x:V}{u:Value}(r:RelV x u):∀{xs:List V}{us:List Value} (i:Nat),Vals xs us->Vals (xs.set i x) (us.set i u)
 |_,_,_,.nil=>.nil
 |_,_,0,.cons _ t=>.cons r t
 |_,_,i+1,.cons q t=>.cons q (Vals.set r i t)
theorem Vals.append:∀{xs ys:List V}{us ws:List Value},Vals xs us->Vals ys ws->Vals (xs++ys) (us++ws)
 |_,_,_,_,.nil,s=>s
 |_,_,_,_,.cons r t,s=>.cons r (Vals.append t s)
theorem Vals.take:∀{xs:List V}{us:List Value} (n:Nat),Vals xs us->Vals (xs.take n) (us.take n)
 |_,_,0,_=>.nil
 |_,_,_+1,.nil=>.nil
 |_,_,n+1,.cons r t=>.cons r (Vals.take n t)
theorem Vals.drop:∀{xs:List V}{us:List Value} (n:Nat),Vals xs us->Vals (xs.drop n) (us.drop n)
 |_,_,0,r=>r
 |_,_,_+1,.nil=>.nil
 |_,_,n+1,.cons _ t=>Vals.drop n t
def zu6:Option V->Option Value->Prop
 |some v,some u=>RelV v u
 |none,none=>True
 |_,_=>False
def KV{κ:Type}:List (κ×V)->List (κ×Value)->Prop:=Paired λ(p:κ×V) (q:κ×Value)=>p.1=q.1/\RelV p.2 q.2
def kV:Key->V
 |.inl i=>.int i
 |.inr x=>.str x
inductive HO where
  |lst (xs:List V)
  |tup (xs:List V)
  |dK (kvs:List (Key×V))|dT (kvs:List (List Key×V))
  |set (S:Int->Bool) (n:Nat)
  |ins (C dx:Addr) (fs:List (Str×V))
  |own (x:Addr)
  |xd (fs:List (Str×V))
  |met (f x:Addr)
  |rng (lo hi:Int)
  |frz (o:Obj) (u:HO)
  |tbl (ps:Array Value)
  |ext (φ:Heap->Prop)
abbrev Hp:=Addr->Option HO
def upd(H:Hp)(a:Addr)(o:HO):Hp:=λb=>if b=a then some o else H b
theorem z9{H:Hp}{a:Addr}{o:HO}:upd H a o a=some o:=by unfold upd;rw[if_pos rfl]
theorem ya{H:Hp}{a b:Addr}{o:HO}(h:b≠a):upd H a o b=H b:=by unfold upd;rw[if_neg h]
theorem yz{H:Hp}{a b:Addr}{o:HO}(h:H a=some o)(h':H b=none):a≠b:=by
 intro e;subst e;rw[h]at h';cases h'
def TupD(h:Heap)(a:Addr)(items:Array Value):Prop:=∃o,h.get? a=some o/\o.cls=.type "tuple" /\(∃n,o.data=.seq items n)/\o.dict=none
theorem TupD.isTup{h:Heap}{a:Addr}{items:Array Value}(x:TupD h a items):IsTup h a items:=let ⟨o,e,c,d,_⟩:=x;⟨o,e,c,d⟩
theorem TupD.lt{h:Heap}{a:Addr}{items:Array Value}(x:TupD h a items):a<h.objs.size:=x.isTup.lt
theorem TupD.new(h:Heap)(items:Array Value):TupD (h.push { cls:=.type "tuple",data:=.seq items }) h.objs.size items:=⟨_,Heap.get?_push_size _ rfl,rfl,⟨_,rfl⟩,rfl⟩
def zkh(oc:Obj)(q:Str):Prop:=∃vs t,oc.data=.fields vs/\vs[1]?=some (.str q t)
def zha(H:Hp)(h:Heap)(a:Addr)(lab:Array Value):Prop:=∃(ps:Array Value) (q:Str) (t:Tok),lab = #[.str q t]/\h.get? a=some { cls:=.none,data:=.fields ps }/\TriplesOk ps.toList /\
 ∀pos cv,codeAmong pos ps.toList=some cv->∃c' oc u,cv=.ref c'/\H c'=some (.frz oc u)/\zkh oc q
section
variable (P:Program)(w:World)
def ObjOk(H:Hp)(h:Heap)(a:Addr):HO->Prop
 |.lst xs=>xs.length<=sizeLine/\∃(its:List Value) (n:Nat),Vals xs its/\h.get? a=some { cls:=.type "list",data:=.seq its.toArray n }
 |.tup xs=>xs.length<=sizeLine/\∃its:List Value,Vals xs its/\TupD h a its.toArray
 |.dK kvs=>kvs.length<=sizeLine/\(a == sysModules)=false/\∃vs,KV kvs vs/\h.DictOf (zf7 P w) a vs
 |.dT kvs=>kvs.length<=sizeLine/\(a == sysModules)=false/\∃xs:List (List Key×Addr×Value),
   Paired (λ(p:List Key×V) (q:List Key×Addr×Value)=>p.1=q.1/\H q.2.1=some (.tup (p.1.map kV))/\RelV p.2 q.2.2) kvs xs /\
   ∃o es ep,h.get? a=some o/\o.ExactDict/\o.data=.dict es ep/\es.toList=xs.map (entryOfKey (tupleKind (zf7 P w)))/\(xs.map (·.1)).Nodup
 |.set S n=>h.SetOf (intKind P w) a S n
 |.ins C dx fs=>H dx=some (.own a)/\fs.length<=1000/\dx≠a/\h.get? a=some (PySem.W.instObj C dx) /\
   ∃mA,h.Ns1 dx mA/\(∀f,zu6 (fs.lookup f) (mA f))/\PySem.Within mA (fs.map (·.1))
 |.own _=>∃o,h.get? a=some o
 |.xd fs=>∃mA,h.Ns1 a mA/\∀f,zu6 (fs.lookup f) (mA f)
 |.rng lo hi=>∃t u v,h.get? a=some { cls:=.type "range",data:=.fields #[.int lo t,.int hi u,.int 1 v] }
 |.frz o u=>h.get? a=some o/\ObjOk H h a u
 |.tbl ps=>zha H h a ps
 |.met f x=>h.get? a=some (PySem.W.methodObj (.ref f) (.ref x))
 |.ext φ=>φ h/\(∃o,h.get? a=some o)/\∀h1 h2:Heap,φ h1->(∀o,h1.get? a=some o->h2.get? a=some o)->φ h2
def HOk(H:Hp)(h:Heap):Prop:=∀a o,H a=some o->ObjOk P w H h a o
end
section
variable {P:Program}{w:World}{H H':Hp}{h h':Heap}{a:Addr}{o:HO}
theorem ObjOk.lt(x:ObjOk P w H h a o):a<h.objs.size:=by
 cases o with
 |lst xs=>obtain⟨_,_,_,_,e⟩:=x;exact Heap.lt_size e
 |tup xs=>obtain⟨_,_,_,p⟩:=x;exact p.lt
 |dK kvs=>obtain⟨_,_,_,_,o,_,_,e,_⟩:=x;exact Heap.lt_size e
 |dT kvs=>obtain⟨_,_,_,_,o,_,_,e,_⟩:=x;exact Heap.lt_size e
 |set S n=>obtain⟨o,_,_,_,e,_⟩:=x;exact Heap.lt_size e
 |ins C dx fs=>obtain⟨_,_,_,e,_⟩:=x;exact Heap.lt_size e
 |own y=>obtain⟨_,e⟩:=x;exact Heap.lt_size e
 |xd fs=>obtain⟨_,⟨_,_,_,e,_⟩,_⟩:=x;exact Heap.lt_size e
 |rng lo hi=>obtain⟨_,_,_,e⟩:=x;exact Heap.lt_size e
 |frz ob u=>obtain⟨e,_⟩:=x;exact Heap.lt_size e
 |tbl ps=>obtain⟨_,_,_,_,e,_⟩:=x;exact Heap.lt_size e
 |met f y=>exact Heap.lt_size (show h.get? a=some _ from x)
 |ext φ=>obtain⟨_,⟨_,e⟩,_⟩:=x;exact Heap.lt_size e
theorem Paired.mapP{α β:Type}{F G:α->β->Prop}:∀{l₁:List α}{l₂:List β},Paired F l₁ l₂->(∀a b,F a b->G a b)->Paired G l₁ l₂
 |_,_,.nil,_=>.nil
 |_,_,.cons r t,f=>.cons (f _ _ r) (Paired.mapP t f)
theorem ObjOk.stay(x:ObjOk P w H h a o)(k:∀b u,(b=a\/H b=some (.own a))->h.get? b=some u->h'.get? b=some u)
  (ho:∀b,H b=some (.own a)->H' b=some (.own a)) (ht:∀b xs,H b=some (.tup xs)->H' b=some (.tup xs)) (hf:∀b o u,H b=some (.frz o u)->H' b=some (.frz o u):=by exact λ_ _ _ q=>q):ObjOk P w H' h' a o:=by
 induction o with
 |lst xs=>obtain⟨z,its,n,r,e⟩:=x;exact⟨z,its,n,r,k _ _ (.inl rfl) e⟩
 |tup xs=>obtain⟨z,its,r,ob,e,c⟩:=x;exact⟨z,its,r,ob,k _ _ (.inl rfl) e,c⟩
 |dK kvs=>obtain⟨z,y,vs,r,ob,es,ep,e,c⟩:=x;exact⟨z,y,vs,r,ob,es,ep,k _ _ (.inl rfl) e,c⟩
 |dT kvs=>
  obtain⟨z,y,xs,r,ob,es,ep,e,c⟩:=x;exact⟨z,y,xs,Paired.mapP r λp q z=>⟨z.1,ht _ _ z.2.1,z.2.2⟩,ob,es,ep,k _ _ (.inl rfl) e,c⟩
 |set S n=>obtain⟨ob,es,ep,t,e,c⟩:=x;exact⟨ob,es,ep,t,k _ _ (.inl rfl) e,c⟩
 |ins C dx fs=>
  obtain⟨d,z,ne,e,mA,⟨od,es,ep,e2,c⟩,r⟩:=x;exact⟨ho _ d,z,ne,k _ _ (.inl rfl) e,mA,⟨od,es,ep,k _ _ (.inr d) e2,c⟩,r⟩
 |own y=>obtain⟨ob,e⟩:=x;exact⟨ob,k _ _ (.inl rfl) e⟩
 |xd fs=>obtain⟨mA,⟨od,es,ep,e,c⟩,r⟩:=x;exact⟨mA,⟨od,es,ep,k _ _ (.inl rfl) e,c⟩,r⟩
 |rng lo hi=>obtain⟨t,u,v,e⟩:=x;exact⟨t,u,v,k _ _ (.inl rfl) e⟩
 |frz ob u ih=>obtain⟨e,q⟩:=x;exact⟨k _ _ (.inl rfl) e,ih q⟩
 |tbl ps=>
  obtain⟨rs,q,t,z,e,tr,r⟩:=x;exact⟨rs,q,t,z,k a _ (.inl rfl) e,tr,λpos cv y=>let ⟨c',oc,u,r1,r2,r3⟩:=r pos cv y;⟨c',oc,u,r1,hf _ _ _ r2,r3⟩⟩
 |met f y=>
  have e:h.get? a=some (PySem.W.methodObj (.ref f) (.ref y)):=x;show h'.get? a=some (PySem.W.methodObj (.ref f) (.ref y));exact k a _ (.inl rfl) e
 |ext φ=>obtain⟨p,⟨o,e⟩,st⟩:=x;exact⟨st _ _ p λo q=>k _ _ (.inl rfl) q,⟨o,k _ _ (.inl rfl) e⟩,st⟩
theorem HOk.lt(x:HOk P w H h)(e:H a=some o):a<h.objs.size:=(x a o e).lt
theorem HOk.fresh(x:HOk P w H h)(e:h.objs.size<=a):H a=none:=by
 cases q:H a with
 |none=>rfl
 |some u=>exact absurd (Nat.lt_of_lt_of_le (x.lt q) e) (Nat.lt_irrefl _)
theorem HOk.kept(x:HOk P w H h)(k:∀b u,h.get? b=some u->h'.get? b=some u):HOk P w H h':=λa o e=>
 (x a o e).stay (λb u _ q=>k b u q) (λ_ q=>q) λ_ _ q=>q
theorem HOk.laid(x:HOk P w H h)(k:∀b u,h.get? b=some u->h'.get? b=some u)(hp:h.objs.size<=a)(new:ObjOk P w (upd H a o) h' a o):HOk P w (upd H a o) h':=λb u e=>by
 have hn:=x.fresh hp
 by_cases hb:b=a
 ·subst hb;rw[z9]at e;cases e;exact new
 ·rw[ya hb]at e;exact(x b u e).stay (λc v _ q=>k c v q) (λc q=>by rw[ya (yz q hn)];exact q) (λc xs q=>by rw[ya (yz q hn)];exact q) λc _ _ q=>by rw[ya (yz q hn)];exact q
end
def Rd(H:Hp)(a:Addr)(u:HO):Prop:=H a=some u\/∃o,H a=some (.frz o u)
theorem Rd.ok{P:Program}{w:World}{H:Hp}{h:Heap}{a:Addr}{u:HO}(r:Rd H a u)(x:HOk P w H h):ObjOk P w H h a u:=by
 rcases r with r |⟨o,r⟩
 ·exact x a u r
 ·obtain⟨_,q⟩:=x a _ r;exact q
def Mut:Option HO->Prop
 |some (.lst _)=>True
 |some (.dK _)=>True
 |some (.dT _)=>True
 |some (.set _ _)=>True
 |some (.ins _ _ _)=>True
 |some (.ext _)=>True
 |_=>False
section
variable {P:Program}{w:World}{H:Hp}{h h':Heap}{x e:Addr}{o':HO}
theorem HOk.write(ok:HOk P w H h)(mu:Mut (H x))(he:e=x\/H e=some (.own x))(k:∀b u,b≠e->h.get? b=some u->h'.get? b=some u)(heo:∃u,h'.get? e=some u)
  (new:ObjOk P w (upd H x o') h' x o'):HOk P w (upd H x o') h':=λb u q=>by
 have nown:∀c y,H c=some (.own y)->c≠x:=λc y r z=>by subst z;rw[r]at mu;exact mu
 have ntup:∀c xs,H c=some (.tup xs)->c≠x:=λc xs r z=>by subst z;rw[r]at mu;exact mu
 have nfrz:∀c o u,H c=some (.frz o u)->c≠x:=λc o u r z=>by subst z;rw[r]at mu;exact mu
 by_cases hb:b=x
 ·subst hb;rw[z9]at q;cases q;exact new
 ·rw[ya hb]at q
  by_cases hbe:b=e
  ·have q':H b=some (.own x):=by
    rcases he with z|z
    ·exact absurd (hbe.trans z) hb
    ·rw[hbe];exact z
   rw[q]at q';cases q';obtain⟨v,hv⟩:=heo;exact⟨v,by rw[hbe];exact hv⟩
  ·refine(ok b u q).stay (λc v hc r=>k c v ?_ r) (λc r=>by rw[ya (nown c b r)];exact r) (λc xs r=>by rw[ya (ntup c xs r)];exact r) (λc o u r=>by rw[ya (nfrz c o u r)];exact r);rcases hc with rfl|hc
   ·exact hbe
   ·rintro rfl;rcases he with z|z
    ·exact nown c b hc z
    ·rw[hc]at z;cases z;exact hb rfl
end
structure Un(fs ex:List Addr)(H H':Hp)(h h':Heap):Prop where
 keep:∀b o,h.get? b=some o->H b=none->b∉fs->b∉ex->h'.get? b=some o
 slot:∀b o,h.get? b=some o->H b=none->b∈fs->b∉ex->∃sl,h'.get? b=some { o with slots:=sl }
 free:∀b o,h.get? b=some o->H b=none->b∉ex->H' b=none
 there:∀b o,h.get? b=some o->b∉ex->∃o',h'.get? b=some o'
 tups:∀b xs,H b=some (.tup xs)->H' b=some (.tup xs)
 frzs:∀b o u,H b=some (.frz o u)->H' b=some (.frz o u)
 tbls:∀b ps,H b=some (.tbl ps)->∃more,H' b=some (.tbl (ps++more))
section
variable {fs fs' ex ex':List Addr}{H H1 H2:Hp}{h h1 h2 h':Heap}{a x e:Addr}{o:HO}
theorem Un.any(u:Un fs ex H H1 h h1){b:Addr}{ob:Obj}(q:h.get? b=some ob)(n:H b=none)(hx:b∉ex):∃sl,h1.get? b=some { ob with slots:=sl }:=by
 by_cases hb:b∈fs
 ·exact u.slot b ob q n hb hx
 ·exact⟨ob.slots,u.keep b ob q n hb hx⟩
theorem Un.kept(k:∀b u,h.get? b=some u->h'.get? b=some u):Un fs ex H H h h' :=
 ⟨λb ob q _ _ _=>k b ob q,λb ob q _ _ _=>⟨ob.slots,k b ob q⟩,λ_ _ _ n _=>n,λb ob q _=>⟨ob,k b ob q⟩,λ_ _ q=>q,λ_ _ _ q=>q,λ_ ps q=>⟨#[],by rw[q];simp⟩⟩
theorem Un.refl:Un fs ex H H h h:=Un.kept λ_ _ q=>q
theorem Un.laid(k:∀b u,h.get? b=some u->h'.get? b=some u)(hp:h.objs.size<=a)(hn:H a=none):Un fs ex H (upd H a o) h h' where
 keep:=λb u q _ _ _=>k b u q
 slot:=λb u q _ _ _=>⟨u.slots,k b u q⟩
 free:=λb u q n _=>by rw[ya (Nat.ne_of_lt (Nat.lt_of_lt_of_le (Heap.lt_size q) hp))];exact n
 there:=λb u q _=>⟨u,k b u q⟩
 tups:=λb xs q=>by rw[ya (yz q hn)];exact q
 frzs:=λb u xs q=>by rw[ya (yz q hn)];exact q
 tbls:=λb ps q=>⟨#[],by rw[ya (yz q hn),q];simp⟩
theorem Un.write(mu:Mut (H x))(he:e=x\/H e=some (.own x))(k:∀b u,b≠e->h.get? b=some u->h'.get? b=some u)(heo:∃u,h'.get? e=some u):Un fs ex H (upd H x o) h h':=by
 have hx:∀b,H b=none->b≠x:=λb n z=>by subst z;rw[n]at mu;exact mu
 have hb:∀b,H b=none->b≠e:=λb n z=>by
  subst z;rcases he with r|r
  ·exact hx b n r
  ·rw[n]at r;cases r
 have hm:∀b u,H b=some u->¬ Mut (some u)->b≠x:=λb u q nm z=>by subst z;rw[q]at mu;exact nm mu
 refine⟨λb u q n _ _=>k b u (hb b n) q,λb u q n _ _=>⟨u.slots,k b u (hb b n) q⟩,λb u q n _=>by rw[ya (hx b n)];exact n,λb u q _=>?_,
  λb xs q=>by rw[ya (hm b _ q λz=>z)];exact q,λb u xs q=>by rw[ya (hm b _ q λz=>z)];exact q,λb ps q=>⟨#[],by rw[ya (hm b _ q λz=>z),q];simp⟩⟩
 by_cases hbe:b=e
 ·subst hbe;exact heo
 ·exact⟨u,k b u hbe q⟩
end
def trk(h:Heap)(H:Hp):List Addr:=(List.range h.objs.size).filter λa=>(H a).isSome
def zdr(h:Heap)(H:Hp):Heap:=PySem.W.hideAll h (trk h H)
theorem zl1(h:Heap)(H:Hp):(zdr h H).objs.size=h.objs.size:=PySem.W.hideAll_size _ _
theorem znh{h:Heap}{H:Hp}{b:Addr}{o:Obj}(e:h.get? b=some o)(n:H b=none):(zdr h H).get? b=some o :=
 PySem.W.hideAll_get _ e λhm=>by
  have q:(H b).isSome=true:=(List.mem_filter.mp hm).2;rw[n]at q;simp at q
theorem zp1{h:Heap}{H:Hp}{b:Addr}{o:Obj}(e:(zdr h H).get? b=some o):h.get? b=some o/\H b=none:=by
 have e':h.get? b=some o:=PySem.W.of_hideAll (trk h H) e;refine⟨e',?_⟩
 cases q:H b with
 |none=>rfl
 |some x=>
  have hm:b∈trk h H:=List.mem_filter.mpr ⟨List.mem_range.mpr (Heap.lt_size e'),by simp[q]⟩;have z:(zdr h H).get? b=none:=PySem.W.hideAll_none (trk h H) hm;rw[z]at e;cases e
def zp2(g h:Heap)(L:Addr):List (Addr×Obj):=(List.range h.objs.size).filterMap λa=>if a=L\/(g.get? a).isSome=true then none else (h.get? a).map λo=>(a,o)
def rest(g h:Heap)(L d:Addr):List (Addr×Obj):=(zp2 g h L).filter λp=>decide (p.1≠d)
structure Mod(K:PySem.W.Frag)(mg:Str->Option Value)(base:Heap):Prop where
 kin:K.In base
 glob:base.Ns mainGlobals mg
 blt:∃mb,base.Ns builtinsNs mb/\∀x:Str,x ≠ "__name__" -> mb x=bootBuiltins x
 nolimit:base.NoLimit
structure Cx where
 prog:Program
 w:World
 K:PySem.W.Frag
 mg:Str->Option Value
 base:Heap
 A:Around
 N:List Str
 s₀:Shared
 H₀:Hp
 env:Env
 outer:List Env
 stack:List Env
 ex:List Addr
 fn:Str->Bool
 calm:Bool
 pn:List (Addr×Obj)
 xe:Value->Shared->Prop
def frs(l:List Env):List Addr:=l.filterMap (·.frame)
abbrev Cx.fs(X:Cx):List Addr:=frs X.outer
def Vis(sc:Scope)(x:Str):Prop:=sc.names.lookup x=some .local\/sc.names.lookup x=some .cell\/sc.names.lookup x=some .free
def Loc(sc:Scope)(x:Str):Prop:=sc.names.lookup x=some .local\/sc.names.lookup x=some .cell
def zws(env:Env)(h:Heap)(m:Str->Option Value)(x:Str)(u:Value):Prop :=
 (env.kindOf x=some .local/\m x=some u)\/((env.kindOf x=some .cell\/env.kindOf x=some .free)/\∃c,env.cells.lookup x=some c/\h.IsCell c (some u))
structure Cx.Ok(X:Cx):Prop where
 mod:Mod X.K X.mg X.base
 kind:X.env.scope.kind=.function
 glob:X.env.globals=mainGlobals
 blt:X.env.builtins=builtinsNs
 above:X.s₀.heap.objs.size<=X.env.locals
 inj:∀x y c,X.env.cells.lookup x=some c->X.env.cells.lookup y=some c->x=y
 has:∀x,(X.env.kindOf x=some .cell\/X.env.kindOf x=some .free)->∃c,X.env.cells.lookup x=some c
 cab:∀x c,X.fn x=true->X.env.cells.lookup x=some c->X.s₀.heap.objs.size<=c
 hd:X.calm=true->X.A.handled=none
 frames:X.A.frames=some X.stack
 stk:X.stack=X.outer\/(X.stack=X.env::X.outer/\X.env.frame=some X.env.locals)
 exf:∀b∈X.ex,b≠X.env.locals/\∀x c,X.env.cells.lookup x=some c->c≠b
 bs:∀b o,X.base.get? b=some o->X.s₀.heap.get? b=some o/\X.H₀ b=none
 bsz:X.base.objs.size<=X.s₀.heap.objs.size
 noex:∀b o,X.base.get? b=some o->b∉X.ex
 exfs:∀b∈X.ex,b∉X.fs
 funs:X.s₀.heap.FunFrames X.base X.outer
 frf:∀b∈X.fs,X.H₀ b=none
structure Inv(X:Cx)(pins:List (Addr×Obj))(σ:List (Option V))(H:Hp)(s:Shared):Prop where
 ok:X.Ok
 os:s.os=X.s₀.os
 bare:AllBare s.gens
 base:Un X.fs X.ex X.H₀ H X.s₀.heap s.heap
 loc:∃m,s.heap.Ns X.env.locals m/\∀(i:Nat) (x:Str) (v:V),X.N[i]?=some x->σ[i]?=some (some v)->Vis X.env.scope x->∃u,RelV v u/\zws X.env s.heap m x u
 cell:∀x c,X.env.cells.lookup x=some c->∃v,s.heap.IsCell c v
 free:H X.env.locals=none
 freeC:∀x c,X.env.cells.lookup x=some c->H c=none
 pin:∀p∈X.pn++pins,s.heap.get? p.1=some p.2/\H p.1=none/\p.1≠X.env.locals/\p.1∉X.fs/\∀v,p.2.data ≠ .cell v
 hok:HOk X.prog X.w H s.heap
 len:σ.length=X.N.length
section
variable {X:Cx}{pins:List (Addr×Obj)}{σ:List (Option V)}{H H':Hp}{s:Shared}{h':Heap}
theorem Cx.Ok.nofr(ok:X.Ok){b:Addr}{o:Obj}(e:X.base.get? b=some o):b∉X.fs:=λhb=>by
 have:=(ok.funs.mem hb).1;rw[e]at this;cases this
theorem Inv.bs(I:Inv X pins σ H s):∀b o,X.base.get? b=some o->s.heap.get? b=some o/\H b=none:=λb o e=>
 ⟨I.base.keep b o (I.ok.bs b o e).1 (I.ok.bs b o e).2 (I.ok.nofr e) (I.ok.noex b o e),I.base.free b o (I.ok.bs b o e).1 (I.ok.bs b o e).2 (I.ok.noex b o e)⟩
theorem Inv.bk(I:Inv X pins σ H s):∀b o,X.base.get? b=some o->s.heap.get? b=some o:=λb o e=>(I.bs b o e).1
theorem Inv.mod(I:Inv X pins σ H s):Mod X.K X.mg X.base:=I.ok.mod
theorem Inv.kIn(I:Inv X pins σ H s):X.K.In s.heap:=I.ok.mod.kin.keeps I.bk
theorem Inv.lt(I:Inv X pins σ H s):X.env.locals<s.heap.objs.size:=let ⟨_,hn,_⟩:=I.loc;hn.lt
theorem Inv.sz(I:Inv X pins σ H s):X.s₀.heap.objs.size<=s.heap.objs.size:=Nat.le_trans I.ok.above (Nat.le_of_lt I.lt)
theorem Inv.nofs(I:Inv X pins σ H s){a:Addr}(h:s.heap.objs.size<=a):a∉X.fs:=λhb=>by
 obtain⟨_,o,ho,_⟩:=I.ok.funs.mem hb;exact absurd (Nat.lt_of_lt_of_le (Heap.lt_size ho) (Nat.le_trans I.sz h)) (Nat.lt_irrefl _)
theorem Inv.cne(I:Inv X pins σ H s):∀x c,X.env.cells.lookup x=some c->c≠X.env.locals:=λx c e z=>by
 obtain⟨v,o,ho,hd⟩:=I.cell x c e;obtain⟨m,⟨o',es,ep,ho',hd',_⟩,_⟩:=I.loc;rw[z,ho']at ho;cases ho;rw[hd']at hd;cases hd
theorem Inv.funs(I:Inv X pins σ H s):s.heap.FunFrames X.base X.outer:=by
 have all:∀(l:List Env),(∀b∈frs l,b∈X.fs)->X.s₀.heap.FunFrames X.base l->s.heap.FunFrames X.base l:=by
  intro l
  induction l with
  |nil=>intro _ _;trivial
  |cons env r ih=>
   intro hs hl;obtain⟨hk,⟨L,o,hf,hn,ho,hd⟩,hr⟩:=hl;have hL:L∈X.fs:=hs L (by unfold frs;rw[List.filterMap_cons,hf];exact List.mem_cons_self);obtain⟨sl,e⟩:=I.base.slot L o ho (I.ok.frf L hL) hL λz=>I.ok.exfs L z hL;exact⟨hk,⟨L,_,hf,hn,e,hd⟩,ih (λb hb=>hs b (by unfold frs;rw[List.filterMap_cons,hf];exact List.mem_cons_of_mem _ hb)) hr⟩
 exact all X.outer (λ_ hb=>hb) I.ok.funs
theorem Inv.stack(I:Inv X pins σ H s):s.heap.FunFrames X.base X.stack:=by
 rcases I.ok.stk with e |⟨e,hf⟩
 ·rw[e];exact I.funs
 ·rw[e];obtain⟨m,hn,_⟩:=I.loc;refine .cons (by rw[I.ok.kind];decide) hf hn ?_ I.funs;exact Heap.get?_none_of_le (Nat.le_trans I.ok.bsz I.ok.above)
theorem Inv.stkSub(I:Inv X pins σ H s):∀b∈frs X.stack,b∈X.env.locals::X.fs:=λb hb=>by
 rcases I.ok.stk with e |⟨e,hf⟩
 ·rw[e]at hb;exact List.mem_cons_of_mem _ hb
 ·rw[e]at hb;unfold frs at hb;rw[List.filterMap_cons,hf]at hb;exact hb
theorem Inv.stkFree(I:Inv X pins σ H s):∀b∈frs X.stack,H b=none:=λb hb=>by
 rcases List.mem_cons.mp (I.stkSub b hb) with e|hb
 ·rw[e];exact I.free
 ·obtain⟨_,o,ho,_⟩:=I.ok.funs.mem hb;exact I.base.free b o ho (I.ok.frf b hb) λz=>I.ok.exfs b z hb
theorem Inv.step{g':Array GenState}{t':Nat}{d':Drawn}{ch:List Addr}(I:Inv X pins σ H s)
  (hch:∀b∈ch,(b∈X.ex\/X.s₀.heap.objs.size<=b)/\b≠X.env.locals/\(∀x c,X.env.cells.lookup x=some c->c≠b)/\∀p∈X.pn++pins,p.1≠b)
  (keep:∀b o,b≠X.env.locals->b∉X.fs->b∉ch->s.heap.get? b=some o->H b=none->h'.get? b=some o)
  (slot:∀b o,b≠X.env.locals->b∈X.fs->b∉ch->s.heap.get? b=some o->H b=none->∃sl,h'.get? b=some { o with slots:=sl }) (free:∀b o,b∉ch->s.heap.get? b=some o->H b=none->H' b=none)
  (there:∀b o,b∉ch->s.heap.get? b=some o->∃o',h'.get? b=some o')
  (tups:∀b xs,H b=some (.tup xs)->H' b=some (.tup xs)) (frzs:∀b o u,H b=some (.frz o u)->H' b=some (.frz o u)) (tbls:∀b ps,H b=some (.tbl ps)->∃more,H' b=some (.tbl (ps++more)))
  (ns:∀m,s.heap.Ns X.env.locals m->h'.Ns X.env.locals m) (hok:HOk X.prog X.w H' h') (hg:AllBare g') :
  Inv X pins σ H' { s with heap:=h',gens:=g',drawn:=d',toks:=t' }:=by
 have neL:∀b o,X.s₀.heap.get? b=some o->b≠X.env.locals:=λb o e=>Nat.ne_of_lt (Nat.lt_of_lt_of_le (Heap.lt_size e) I.ok.above);have neC:∀b o,X.s₀.heap.get? b=some o->b∉X.ex->b∉ch:=λb o e hx hb=>by
  rcases (hch b hb).1 with z|z
  ·exact hx z
  ·exact absurd (Nat.lt_of_lt_of_le (Heap.lt_size e) z) (Nat.lt_irrefl _)
 have cellK:∀x c,X.env.cells.lookup x=some c->∀v,s.heap.IsCell c v->h'.IsCell c v:=λx c e v ⟨o,ho,hd⟩=>by
  have nch:c∉ch:=λz=>(hch c z).2.2.1 x c e rfl
  by_cases hc:c∈X.fs
  ·obtain⟨sl,q⟩:=slot c o (I.cne x c e) hc nch ho (I.freeC x c e);exact⟨_,q,hd⟩
  ·exact⟨o,keep c o (I.cne x c e) hc nch ho (I.freeC x c e),hd⟩
 refine⟨I.ok,I.os,hg,⟨λb o e n hb hx=>?_,λb o e n hb hx=>?_,λb o e n hx=>?_,λb o e hx=>?_,λb xs e=>tups b xs (I.base.tups b xs e),λb o xs e=>frzs b o xs (I.base.frzs b o xs e),λb ps e=>?_⟩,?_,λx c e=>?_,?_,λx c e=>?_,λp hp=>?_,hok,I.len⟩
 ·exact keep b o (neL b o e) hb (neC b o e hx) (I.base.keep b o e n hb hx) (I.base.free b o e n hx)
 ·obtain⟨sl,e1⟩:=I.base.slot b o e n hb hx;obtain⟨sl',e2⟩:=slot b _ (neL b o e) hb (neC b o e hx) e1 (I.base.free b o e n hx);exact⟨sl',e2⟩
 ·obtain⟨o',e1⟩:=I.base.there b o e hx;exact free b o' (neC b o e hx) e1 (I.base.free b o e n hx)
 ·obtain⟨o',e1⟩:=I.base.there b o e hx;exact there b o' (neC b o e hx) e1
 ·obtain⟨m1,e1⟩:=I.base.tbls b ps e;obtain⟨m2,e2⟩:=tbls b _ e1;exact⟨m1++m2,by rw[e2,Array.append_assoc]⟩
 ·obtain⟨m,hn,hl⟩:=I.loc;refine⟨m,ns m hn,λi x v e1 e2 e3=>?_⟩;obtain⟨u,r,l⟩:=hl i x v e1 e2 e3;refine⟨u,r,?_⟩;rcases l with l |⟨k,c,e,z⟩
  ·exact .inl l
  ·exact .inr ⟨k,c,e,cellK x c e _ z⟩
 ·obtain⟨v,z⟩:=I.cell x c e;exact⟨v,cellK x c e v z⟩
 ·obtain⟨m,⟨o,_,_,ho,_⟩,_⟩:=I.loc;exact free _ o (λz=>(hch _ z).2.1 rfl) ho I.free
 ·obtain⟨v,o,ho,hd⟩:=I.cell x c e;exact free c o (λz=>(hch c z).2.2.1 x c e rfl) ho (I.freeC x c e)
 ·obtain⟨e,n,ne,nf,d⟩:=I.pin p hp;have nch:p.1∉ch:=λz=>(hch p.1 z).2.2.2 p hp rfl;exact⟨keep p.1 p.2 ne nf nch e n,free p.1 p.2 nch e n,ne,nf,d⟩
theorem Inv.un{t':Nat}(I:Inv X pins σ H s)(u:Un X.fs [] H H' s.heap h')(hok:HOk X.prog X.w H' h'):Inv X pins σ H' { s with heap:=h',toks:=t' }:=by
 obtain⟨m,⟨o,es,ep,ho,r⟩,_⟩:=id I.loc;obtain⟨sl,hL⟩:=u.any ho I.free (by simp);exact I.step (g':=s.gens) (d':=s.drawn) (ch:=[]) (λ_ z=>nomatch z) (λb o _ hb _ e n=>u.keep b o e n hb (by simp)) (λb o _ hb _ e n=>u.slot b o e n hb (by simp)) (λb o _ e n=>u.free b o e n (by simp)) (λb o _ e=>u.there b o e (by simp)) u.tups u.frzs u.tbls (λm' hm=>by
  obtain⟨o',es',ep',ho',r'⟩:=hm;rw[ho]at ho';cases ho';exact⟨_,es',ep',hL,r'⟩) hok I.bare
theorem Inv.call{g':Array GenState}{t':Nat}{d':Drawn}{ch:List Addr}(I:Inv X pins σ H s)(u:Un (frs X.stack) ch H H' s.heap h')(hok:HOk X.prog X.w H' h')(hg:AllBare g')
  (hch:∀b∈ch,(b∈X.ex\/X.s₀.heap.objs.size<=b)/\b≠X.env.locals/\(∀x c,X.env.cells.lookup x=some c->c≠b)/\∀p∈X.pn++pins,p.1≠b) :
  Inv X pins σ H' { s with heap:=h',gens:=g',drawn:=d',toks:=t' }:=by
 obtain⟨m,⟨o,es,ep,ho,r⟩,_⟩:=id I.loc;obtain⟨sl,hL⟩:=u.any ho I.free λz=>(hch _ z).2.1 rfl;exact I.step (ch:=ch) hch (λb o hL hb hc e n=>u.keep b o e n (λz=>(List.mem_cons.mp (I.stkSub b z)).elim hL hb) hc) (λb o _ _ hc e n=>u.any e n hc) (λb o hc e n=>u.free b o e n hc) (λb o hc e=>u.there b o e hc) u.tups u.frzs u.tbls (λm' hm=>by
  obtain⟨o',es',ep',ho',r'⟩:=hm;rw[ho]at ho';cases ho';exact⟨_,es',ep',hL,r'⟩) hok hg
theorem Inv.turned{t':Nat}{it:Addr}(I:Inv X pins σ H s)(k:∀b o,b≠it->s.heap.get? b=some o->h'.get? b=some o)(hn:H it=none)(hL:it≠X.env.locals)
  (h1:it∈X.ex\/X.s₀.heap.objs.size<=it) (h2:∀x c,X.env.cells.lookup x=some c->c≠it) (h3:∀p∈X.pn++pins,p.1≠it):Inv X pins σ H { s with heap:=h',toks:=t' }:=by
 have nit:∀b u,H b=some u->b≠it:=λb u e z=>by rw[z,hn]at e;cases e
 refine I.step (g':=s.gens) (d':=s.drawn) (ch:=[it]) (λb hb=>?_) (λb o _ _ hc e _=>k b o (λz=>hc (by simp[z])) e) (λb o _ _ hc e _=>⟨o.slots,k b o (λz=>hc (by simp[z])) e⟩) (λ_ _ _ _ n=>n)
  (λb o hc e=>⟨o,k b o (λz=>hc (by simp[z])) e⟩) (λ_ _ e=>e) (λ_ _ _ e=>e) (λb ps e=>⟨#[],by rw[e];simp⟩) (λm hm=>?_) (λb u e=>?_) I.bare
 ·have e:b=it:=by simpa using hb
  subst e;exact⟨h1,hL,h2,h3⟩
 ·obtain⟨o,es,ep,ho,r⟩:=hm;exact⟨o,es,ep,k _ o (Ne.symm hL) ho,r⟩
 ·refine(I.hok b u e).stay (λc v hc q=>k c v ?_ q) (λ_ q=>q) λ_ _ q=>q;rcases hc with z|z
  ·rw[z];exact nit b u e
  ·exact nit c _ z
theorem Inv.tok(I:Inv X pins σ H s)(t:Nat):Inv X pins σ H { s with toks:=t }:=I.un (h':=s.heap) (t':=t) Un.refl I.hok
theorem Inv.kept{t':Nat}(I:Inv X pins σ H s)(k:∀b u,s.heap.get? b=some u->h'.get? b=some u):Inv X pins σ H { s with heap:=h',toks:=t' }:=I.un (Un.kept k) (I.hok.kept k)
theorem Inv.laid{a:Addr}{o:HO}{t':Nat}(I:Inv X pins σ H s)(k:∀b u,s.heap.get? b=some u->h'.get? b=some u)(hp:s.heap.objs.size<=a)(new:ObjOk X.prog X.w (upd H a o) h' a o):
  Inv X pins σ (upd H a o) { s with heap:=h',toks:=t' }:=I.un (Un.laid k hp (I.hok.fresh hp)) (I.hok.laid k hp new)
theorem Inv.write{x e:Addr}{o:HO}{t':Nat}(I:Inv X pins σ H s)(mu:Mut (H x))(he:e=x\/H e=some (.own x))(k:∀b u,b≠e->s.heap.get? b=some u->h'.get? b=some u)(heo:∃u,h'.get? e=some u)
  (new:ObjOk X.prog X.w (upd H x o) h' x o):Inv X pins σ (upd H x o) { s with heap:=h',toks:=t' }:=I.un (Un.write mu he k heo) (I.hok.write mu he k heo new)
theorem Inv.pins_of{pins':List (Addr×Obj)}(I:Inv X pins σ H s)(h:∀p∈pins',s.heap.get? p.1=some p.2/\H p.1=none/\p.1≠X.env.locals/\p.1∉X.fs/\∀v,p.2.data ≠ .cell v):Inv X pins' σ H s :=
 ⟨I.ok,I.os,I.bare,I.base,I.loc,I.cell,I.free,I.freeC,λp hp=>(List.mem_append.mp hp).elim (λz=>I.pin p (List.mem_append_left _ z)) (h p),I.hok,I.len⟩
theorem zhb{N:List Str}(hN:N.Nodup){i j:Nat}{x:Str}(a:N[i]?=some x)(b:N[j]?=some x):i=j:=by
 obtain⟨h1,e1⟩:=List.getElem?_eq_some_iff.mp a;obtain⟨h2,e2⟩:=List.getElem?_eq_some_iff.mp b;exact(List.getElem_inj hN).mp (e1.trans e2.symm)
theorem zfh{M:Model}{A:Around}{E:Value->Shared->Prop}{i:Nat}{x:Str}{v:V}{u:Value}{Q:Unit->Shared->Prop}(I:Inv X pins σ H s)(hN:X.N.Nodup)(hi:X.N[i]?=some x)(hx:Loc X.env.scope x)(r:RelV v u)
  (h:∀s',Inv X pins (σ.set i (some v)) H s'->(∃a,Heap.SameBut a s.heap s'.heap/\(a=X.env.locals\/X.env.cells.lookup x=some a))->Q () s') (hf:X.fn x=true\/X.env.scope.names.lookup x=some .local:=by first|exact .inl rfl|exact .inr rfl|assumption):wpAny M A (storeName X.env x u) Q E s:=by
 obtain⟨m,hn,hl⟩:=id I.loc;have hcls:(X.env.scope.kind == .class ||(X.env.scope.kind == .module && X.env.locals != X.env.globals))=false:=by rw[I.ok.kind];rfl
 have hiσ:i<σ.length:=by rw[I.len];exact(List.getElem?_eq_some_iff.mp hi).1
 have cne:=I.cne;have tracked:∀{a:Addr}{h':Heap},(∃o,s.heap.get? a=some o/\H a=none)->Heap.SameBut a s.heap h'->HOk X.prog X.w H h':=λ{a h'} ha hs b ob e=>by
  obtain⟨_,_,hfree⟩:=ha;refine(I.hok b ob e).stay (λc w' hc q=>(hs.2 c ?_).trans q) (λ_ q=>q) λ_ _ q=>q;rintro rfl;rcases hc with rfl|hc
  ·rw[hfree]at e;cases e
  ·rw[hfree]at hc;cases hc
 rcases hx with hk|hk
 ·refine wpAny_storeName_local hk hn (λh' hn' hs=>?_) hcls;obtain⟨oL,_,_,hoL,_⟩:=id hn;refine h _ ⟨I.ok,I.os,I.bare,⟨λb o e n hb hx=>?_,λb o e n hb hx=>?_,I.base.free,λb o e hx=>?_,I.base.tups,I.base.frzs,I.base.tbls⟩,⟨_,hn',λj y v' e1 e2 e3=>?_⟩,λy c e=>?_,I.free,I.freeC,λp hp=>?_,tracked ⟨oL,hoL,I.free⟩ hs,by simpa using I.len⟩ ⟨_,hs,.inl rfl⟩
  ·exact(hs.2 b (Nat.ne_of_lt (Nat.lt_of_lt_of_le (Heap.lt_size e) I.ok.above))).trans (I.base.keep b o e n hb hx)
  ·obtain⟨sl,e1⟩:=I.base.slot b o e n hb hx;exact⟨sl,(hs.2 b (Nat.ne_of_lt (Nat.lt_of_lt_of_le (Heap.lt_size e) I.ok.above))).trans e1⟩
  ·obtain⟨o',e1⟩:=I.base.there b o e hx;exact⟨o',(hs.2 b (Nat.ne_of_lt (Nat.lt_of_lt_of_le (Heap.lt_size e) I.ok.above))).trans e1⟩
  ·by_cases hj:j=i
   ·subst hj;rw[hi]at e1;cases e1;rw[List.getElem?_set_self hiσ]at e2
    cases e2;exact⟨u,r,.inl ⟨hk,by simp⟩⟩
   ·rw[List.getElem?_set_ne (Ne.symm hj)]at e2;obtain⟨u',r',q⟩:=hl j y v' e1 e2 e3;refine⟨u',r',?_⟩;rcases q with⟨k,e⟩ |⟨k,c,e,z⟩
    ·refine .inl ⟨k,?_⟩;have:y≠x:=λe=>hj (zhb hN e1 (e ▸ hi));simp[this,e]
    ·exact .inr ⟨k,c,e,z.sameBut hs (cne y c e)⟩
  ·obtain⟨w',z⟩:=I.cell y c e;exact⟨w',z.sameBut hs (cne y c e)⟩
  ·obtain⟨e,n,ne,nf,d⟩:=I.pin p hp;exact⟨(hs.2 p.1 ne).trans e,n,ne,nf,d⟩
 ·have hfn:X.fn x=true:=by
   rcases hf with z|z
   ·exact z
   ·rw[z]at hk;cases hk
  obtain⟨c,hc⟩:=I.ok.has x (.inl hk);obtain⟨w',z⟩:=I.cell x c hc;refine wpAny_storeName_cell I.ok.kind hk hc z (λh' hc' hs=>?_);obtain⟨oc,hoc,hocd⟩:=id z;refine h { s with heap:=h' } ⟨I.ok,I.os,I.bare,⟨λb o e n hb hx=>?_,λb o e n hb hx=>?_,I.base.free,λb o e hx=>?_,I.base.tups,I.base.frzs,I.base.tbls⟩,⟨m,hn.sameBut hs (Ne.symm (cne x c hc)),λj y v' e1 e2 e3=>?_⟩,λy c' e=>?_,I.free,I.freeC,λp hp=>?_,tracked ⟨oc,hoc,I.freeC x c hc⟩ hs,by simpa using I.len⟩ ⟨c,hs,.inr hc⟩
  ·exact(hs.2 b (Nat.ne_of_lt (Nat.lt_of_lt_of_le (Heap.lt_size e) (I.ok.cab x c hfn hc)))).trans (I.base.keep b o e n hb hx)
  ·obtain⟨sl,e1⟩:=I.base.slot b o e n hb hx;exact⟨sl,(hs.2 b (Nat.ne_of_lt (Nat.lt_of_lt_of_le (Heap.lt_size e) (I.ok.cab x c hfn hc)))).trans e1⟩
  ·obtain⟨o',e1⟩:=I.base.there b o e hx;exact⟨o',(hs.2 b (Nat.ne_of_lt (Nat.lt_of_lt_of_le (Heap.lt_size e) (I.ok.cab x c hfn hc)))).trans e1⟩
  ·by_cases hj:j=i
   ·subst hj;rw[hi]at e1;cases e1;rw[List.getElem?_set_self hiσ]at e2
    cases e2;exact⟨u,r,.inr ⟨.inl hk,c,hc,hc'⟩⟩
   ·rw[List.getElem?_set_ne (Ne.symm hj)]at e2;obtain⟨u',r',q⟩:=hl j y v' e1 e2 e3;refine⟨u',r',?_⟩;rcases q with q |⟨k,c',e,z'⟩
    ·exact .inl q
    ·refine .inr ⟨k,c',e,z'.sameBut hs ?_⟩;rintro rfl;exact hj (zhb hN e1 (I.ok.inj _ _ _ e hc ▸ hi))
  ·by_cases hcc:c'=c
   ·subst hcc;exact⟨_,hc'⟩
   ·obtain⟨w2,z2⟩:=I.cell y c' e;exact⟨w2,z2.sameBut hs hcc⟩
  ·obtain⟨e,n,ne,nf,d⟩:=I.pin p hp;refine⟨(hs.2 p.1 ?_).trans e,n,ne,nf,d⟩;intro q;rw[q,hoc]at e;have q':oc=p.2:=Option.some.inj e;exact d w' (by rw[<-q'];exact hocd)
theorem zbi{M:Model}{A:Around}{E:Value->Shared->Prop}{i:Nat}{x:Str}{v:V}{u:Value}{Q:Unit->Shared->Prop}(I:Inv X pins σ H s)(hN:X.N.Nodup)(hi:X.N[i]?=some x)(hx:Loc X.env.scope x)(r:RelV v u)
  (h:∀s',Inv X pins (σ.set i (some v)) H s'->Q () s') (hf:X.fn x=true\/X.env.scope.names.lookup x=some .local:=by first|exact .inl rfl|exact .inr rfl|assumption):wpAny M A (storeName X.env x u) Q E s :=
 zfh I hN hi hx r (λs' I' _=>h s' I') hf
theorem Inv.call'{s':Shared}{ch:List Addr}(I:Inv X pins σ H s)(ho:s'.os=s.os)(u:Un (frs X.stack) ch H H' s.heap s'.heap)(hok:HOk X.prog X.w H' s'.heap)(hg:AllBare s'.gens)
  (hch:∀b∈ch,(b∈X.ex\/X.s₀.heap.objs.size<=b)/\b≠X.env.locals/\(∀x c,X.env.cells.lookup x=some c->c≠b)/\∀p∈X.pn++pins,p.1≠b):Inv X pins σ H' s':=by
 obtain⟨h',g',d',t',o'⟩:=s';have e:o'=s.os:=ho;subst e;exact I.call (g':=g') (t':=t') (d':=d') u hok hg hch
end
abbrev XK:=Value->Option Addr->Hp->Prop
abbrev St:=List (Option V)
abbrev VK:=V->Hp->Prop
abbrev TE:=St->Hp->VK->Prop
abbrev TT:=St->Hp->(Bool->Hp->Prop)->Prop
abbrev TA:=St->Hp->(List V->Hp->Prop)->Prop
structure ziv where
 nx:St->Hp->Prop
 rt:VK
 bk:St->Hp->Prop:=λ_ _=>False
 ct:St->Hp->Prop:=λ_ _=>False
abbrev TS:=ziv->St->Hp->Prop
def EP(X:Cx)(pins:List (Addr×Obj))(σ:St)(Q:VK)(u:Value)(s':Shared):Prop:=∃v H',Inv X pins σ H' s'/\RelV v u/\Q v H'
def TP(X:Cx)(pins:List (Addr×Obj))(σ:St)(Q:Bool->Hp->Prop)(b:Bool)(s':Shared):Prop:=∃H',Inv X pins σ H' s'/\Q b H'
def AP(X:Cx)(pins:List (Addr×Obj))(σ:St)(Q:List V->Hp->Prop)(us:List Value)(s':Shared):Prop:=∃vs H',Inv X pins σ H' s'/\Vals vs us/\Q vs H'
def SP(X:Cx)(pins:List (Addr×Obj))(D:ziv)(f:Flow)(s':Shared):Prop :=
 match f with
 |.next=>∃σ' H',Inv X pins σ' H' s'/\D.nx σ' H'
 |.brk=>∃σ' H',Inv X pins σ' H' s'/\D.bk σ' H'
 |.cont=>∃σ' H',Inv X pins σ' H' s'/\D.ct σ' H'
 |.ret u=>∃v σ' H',Inv X pins σ' H' s'/\RelV v u/\D.rt v H'
def PE(X:Cx)(e:Expr)(t:TE):Prop :=
 ∀(pins:List (Addr×Obj)) (s:Shared) (σ:St) (H:Hp) (Q:VK),Inv X pins σ H s->t σ H Q->wpAny (model X.prog X.w) X.A (eval e X.env) (EP X pins σ Q) X.xe s
def PT(X:Cx)(e:Expr)(t:TT):Prop :=
 ∀(pins:List (Addr×Obj)) (s:Shared) (σ:St) (H:Hp) (Q:Bool->Hp->Prop),Inv X pins σ H s->t σ H Q->wpAny (model X.prog X.w) X.A (isTrue e X.env (eval e X.env)) (TP X pins σ Q) X.xe s
def PW(X:Cx)(e:Expr)(t:TT):Prop :=
 ∀(whole:Sem Value) (pins:List (Addr×Obj)) (s:Shared) (σ:St) (H:Hp) (Q:Bool->Hp->Prop),Inv X pins σ H s->t σ H Q->wpAny (model X.prog X.w) X.A (isTrue e X.env whole) (TP X pins σ Q) X.xe s
theorem PW.pt{X:Cx}{e:Expr}{t:TT}(h:PW X e t):PT X e t:=h _
def PA(X:Cx)(es:List Expr)(t:TA):Prop :=
 ∀(pos:Pos) (pins:List (Addr×Obj)) (s:Shared) (σ:St) (H:Hp) (Q:List V->Hp->Prop),Inv X pins σ H s->t σ H Q->wpAny (model X.prog X.w) X.A (spliced (backTo pos (starEach es X.env))) (AP X pins σ Q) X.xe s
def PS(X:Cx)(st:Stmt)(t:TS):Prop :=
 ∀(pins:List (Addr×Obj)) (s:Shared) (σ:St) (H:Hp) (D:ziv),Inv X pins σ H s->t D σ H->wpAny (model X.prog X.w) X.A (exec st X.env) (SP X pins D) X.xe s
def PSs(X:Cx)(st:List Stmt)(t:TS):Prop :=
 ∀(pins:List (Addr×Obj)) (s:Shared) (σ:St) (H:Hp) (D:ziv),Inv X pins σ H s->t D σ H->wpAny (model X.prog X.w) X.A (execs st X.env) (SP X pins D) X.xe s
theorem thn{α:Type}{t:Sem α}{Q Q':α->Shared->Prop}{M:Model}{A:Around}{E:Value->Shared->Prop}{s:Shared}(h:wpAny M A t Q E s)(hQ:∀a s,Q a s->Q' a s):wpAny M A t Q' E s:=wpAny_mono h hQ λ_ _ x=>x
section
variable {X:Cx}
theorem bin{a b:Expr}{ta tb:TE}(ha:PE X a ta)(hb:PE X b tb){pins:List (Addr×Obj)}{s:Shared}{σ:St}{H:Hp}{R:V->V->Hp->Prop}(I:Inv X pins σ H s)(h:ta σ H λx H1=>tb σ H1 λy H2=>R x y H2)
  {α:Type}{Q:α->Shared->Prop}{f:Value->Value->Sem α}
  (hf:∀v u s2 x y H2,Inv X pins σ H2 s2->RelV x v->RelV y u->R x y H2->wpAny (model X.prog X.w) X.A (f v u) Q X.xe s2) :
  wpAny (model X.prog X.w) X.A (eval a X.env) (λv s₁=>wpAny (model X.prog X.w) X.A (eval b X.env) (λu s₂=>wpAny (model X.prog X.w) X.A (f v u) Q X.xe s₂) X.xe s₁) X.xe s:=by
 refine thn (ha pins s σ H _ I h) λv s1 ⟨x,H1,I1,r1,q1⟩=>?_;refine thn (hb pins s1 σ H1 _ I1 q1) λu s2 ⟨y,H2,I2,r2,q2⟩=>?_;exact hf v u s2 x y H2 I2 r1 r2 q2
def zu7(i:Nat):TE:=λσ H Q=>∃v,σ[i]?=some (some v)/\Q v H
def tC(v:V):TE:=λ_ H Q=>Q v H
theorem wm{i:Nat}{x:Str}{pos:Pos}(hN:X.N[i]?=some x)(hv:Vis X.env.scope x)(hd:(x ==("__debug__" : Str))=false:=by decide)(hcd:(x ==("__classdict__" : Str))=false:=by decide):PE X (.Name x pos) (zu7 i):=by
 intro pins s σ H Q I h;obtain⟨v,e,h⟩:=h;obtain⟨m,hn,hl⟩:=I.loc;obtain⟨u,r,l⟩:=hl i x v hN e hv;have fin:EP X pins σ Q u s:=⟨v,H,I,r,h⟩
 rcases l with⟨hk,hm⟩ |⟨hk,c,hc,hcell⟩
 ·exact wpAny_Name (wpAny_loadName_local I.ok.kind hk hn hm fin) hd
 ·rcases hk with hk|hk
  ·exact wpAny_Name (wpAny_loadName_cell I.ok.kind hk hc hcell fin) hd
  ·exact wpAny_Name (wpAny_loadName_free I.ok.kind hk hc hcell fin hcd) hd
theorem vy{i j pos}:PE X (.Constant (.int i) j pos) (tC (.int i)):=λ_ _ _ H _ I h=>wpAny_Constant_int ⟨.int i,H,I.tok _,⟨_,rfl⟩,h⟩
theorem zu8{b j pos}:PE X (.Constant (.bool b) j pos) (tC (.bl b)):=λ_ _ _ H _ I h=>Constant_bool ⟨.bl b,H,I,rfl,h⟩
theorem zsn{j pos}:PE X (.Constant .none j pos) (tC .non):=λ_ _ _ H _ I h=>Constant_none ⟨.non,H,I,rfl,h⟩
theorem zso{x j pos}:PE X (.Constant (.str x) j pos) (tC (.str x)):=λ_ _ _ H _ I h=>Calls.Constant_str ⟨.str x,H,I.tok _,⟨_,rfl⟩,h⟩
def Gl(X:Cx)(x:Str):Prop:=X.env.kindOf x=some .globalImplicit
theorem zf8{E:Value->Shared->Prop}{pins:List (Addr×Obj)}{s:Shared}{σ:St}{H:Hp}{x:Str}{u:Value}{pos:Pos}{Q:Value->Shared->Prop}(I:Inv X pins σ H s)(hg:Gl X x)(hm:X.mg x=some u)(h:Q u s)
  (hd:(x ==("__debug__" : Str))=false:=by decide):wpAny (model X.prog X.w) X.A (eval (.Name x pos) X.env) Q E s :=
 Calls.Name_function_global I.ok.kind hg (Calls.loadGlobal_global (by rw[I.ok.glob];exact I.mod.glob.keeps I.bk) hm h) hd
theorem kx{E:Value->Shared->Prop}{pins:List (Addr×Obj)}{s:Shared}{σ:St}{H:Hp}{x:Str}{u:Value}{pos:Pos}{Q:Value->Shared->Prop}(I:Inv X pins σ H s)(hg:Gl X x)(hm:X.mg x=none)(hv:bootBuiltins x=some u)(h:Q u s)
  (hn:x ≠ "__name__" := by decide) (hd:(x ==("__debug__" : Str))=false:=by decide):wpAny (model X.prog X.w) X.A (eval (.Name x pos) X.env) Q E s:=by
 obtain⟨mb,h1,h2⟩:=I.mod.blt;exact Calls.Name_function_global I.ok.kind hg (Calls.loadGlobal_builtin (by rw[I.ok.glob];exact I.mod.glob.keeps I.bk) hm (by rw[I.ok.blt];exact h1.keeps I.bk) ((h2 x hn).trans hv) h) hd
theorem zp3{x:Str}{v:V}{u:Value}{pos:Pos}(hg:Gl X x)(hm:X.mg x=some u)(r:RelV v u)(hd:(x ==("__debug__" : Str))=false:=by decide):PE X (.Name x pos) (tC v) :=
 λ_ _ _ H _ I h=>zf8 I hg hm ⟨v,H,I,r,h⟩ hd
theorem zp4{x:Str}{v:V}{u:Value}{pos:Pos}(hg:Gl X x)(hm:X.mg x=none)(hv:bootBuiltins x=some u)(r:RelV v u)(hn:x ≠ "__name__" := by decide)(hd:(x ==("__debug__" : Str))=false:=by decide):PE X (.Name x pos) (tC v) :=
 λ_ _ _ H _ I h=>kx I hg hm hv ⟨v,H,I,r,h⟩ hn hd
def t2I(ta tb:TE)(k:Int->Int->Hp->Prop):St->Hp->Prop:=λσ H=>ta σ H λx H1=>tb σ H1 λy H2=>∃i j,x=.int i/\y=.int j/\k i j H2
variable {a b:Expr}{ta tb:TE}{pos:Pos}
def PC(X:Cx)(op:CmpOp)(a b:Expr)(t:TE):Prop :=
 ∀(pins:List (Addr×Obj)) (s:Shared) (σ:St) (H:Hp) (Q:VK),Inv X pins σ H s->t σ H Q ->
  wpAny (model X.prog X.w) X.A (eval a X.env) (λv s₁=>wpAny (model X.prog X.w) X.A (eval b X.env) (λu s₂=>wpAny (model X.prog X.w) X.A (compareOp op v u) (EP X pins σ Q) X.xe s₂) X.xe s₁) X.xe s
def zu9(p:Int->Int->Bool)(ta tb:TE):TE:=λσ H Q=>t2I ta tb (λi j H2=>Q (.bl (p i j)) H2) σ H
abbrev tLe:TE->TE->TE:=zu9 λi j=>decide (i<=j)
theorem zsp{op:CmpOp}{p:Int->Int->Bool}(ha:PE X a ta)(hb:PE X b tb)
  (rule:∀(i j:Int) (t u:Tok) (Q:Value->Shared->Prop) (s:Shared),Q (.bool (p i j)) s->wpAny (model X.prog X.w) X.A (compareOp op (.int i t) (.int j u)) Q X.xe s):PC X op a b (zu9 p ta tb):=by
 intro pins s σ H Q I h;refine bin ha hb I h λv u s2 x y H2 I2 rx ry q=>?_;obtain⟨i,j,rfl,rfl,q⟩:=q;obtain⟨t,rfl⟩:=rx;obtain⟨t',rfl⟩:=ry;exact rule i j t t' _ s2 ⟨.bl _,H2,I2,rfl,q⟩
theorem pc_le(ha:PE X a ta)(hb:PE X b tb):PC X .LtE a b (tLe ta tb):=zsp ha hb λ_ _ _ _ _ _ h=>le_int h
variable {tA tB':TT}{rest:List Expr}
def zwt(t u:TT):TT:=λσ H Q=>t σ H λc H1=>if c=true then u σ H1 Q else Q false H1
theorem zp5(ha:PT X a tA):PW X (.BoolOp .And [a] pos) tA:=by
 intro wh pins s σ H Q I h;refine isTrue_and (thn (ha pins s σ H Q I h) λc s1 e=>?_)
 cases c with
 |true=>exact isTrue_and_nil e
 |false=>exact e
theorem zsq(ha:PT X a tA)(hb:PW X (.BoolOp .And (b::rest) pos) tB'):PW X (.BoolOp .And (a::b::rest) pos) (zwt tA tB'):=by
 intro wh pins s σ H Q I h;refine isTrue_and (thn (ha pins s σ H _ I h) λc s1 ⟨H1,I1,q1⟩=>?_)
 cases c with
 |true=>exact hb wh pins s1 σ H1 Q I1 q1
 |false=>exact⟨H1,I1,q1⟩
def zva(ta:TE):TE:=λσ H Q=>ta σ H λx H1=>∃c,x=.bl c/\Q (.bl (!c)) H1
theorem zsr(ha:PE X a ta):PE X (.UnaryOp .Not a pos) (zva ta):=by
 intro pins s σ H Q I h;refine UnaryOp_ (thn (ha pins s σ H _ I h) λv s1 ⟨x,H1,I1,r1,q1⟩=>?_);obtain⟨c,rfl,q1⟩:=q1
 cases r1;exact not_of (wpAny_truthy_bool ⟨.bl (!c),H1,I1,rfl,q1⟩)
def tIf(t:TT)(ta tb:TE):TE:=λσ H Q=>t σ H λc H1=>if c=true then ta σ H1 Q else tb σ H1 Q
theorem zni{c:Expr}(hc:PT X c tA)(ha:PE X a ta)(hb:PE X b tb):PE X (.IfExp c a b pos) (tIf tA ta tb):=by
 intro pins s σ H Q I h;refine wpAny_IfExp (thn (hc pins s σ H _ I h) λd s1 ⟨H1,I1,q1⟩=>?_)
 cases d with
 |true=>exact ha pins s1 σ H1 Q I1 q1
 |false=>exact hb pins s1 σ H1 Q I1 q1
end
def SqL(K:PySem.W.Frag)(H:Hp)(a:Addr)(xs:List V):Prop :=
 Rd H a (.lst xs) \/
  ∃(o:Obj) (its:Array Value) (n:Nat),K.lookup a=some o/\o.cls=.type "list" /\ o.dict=none/\o.data=.seq its n/\its.size<=sizeLine/\Vals xs its.toList
def SqT(K:PySem.W.Frag)(H:Hp)(a:Addr)(xs:List V):Prop :=
 Rd H a (.tup xs) \/
  ∃(o:Obj) (its:Array Value) (n:Nat),K.lookup a=some o/\o.cls=.type "tuple" /\ o.dict=none/\o.data=.seq its n/\its.size<=sizeLine/\Vals xs its.toList
def zwu:Value->Option V
 |.none=>some .non
 |.bool b=>some (.bl b)
 |.int i _=>some (.int i)
 |.str x _=>some (.str x)
 |.bytes b _=>some (.byt b)
 |.float b _=>some (.flt b)
 |.ref a=>some (.ref a)
 |.type n=>some (.ty n)
 |_=>none
theorem RelV.abs{x:V}{u:Value}(r:RelV x u):zwu u=some x:=by
 cases x with
 |non=>cases r;rfl
 |bl _=>cases r;rfl
 |int _=>obtain⟨t,rfl⟩:=r;rfl
 |str _=>obtain⟨t,rfl⟩:=r;rfl
 |byt _=>obtain⟨t,rfl⟩:=r;rfl
 |flt _=>obtain⟨t,rfl⟩:=r;rfl
 |ref _=>cases r;rfl
 |ty _=>cases r;rfl
theorem RelV.inj{x y:V}{u:Value}(r:RelV x u)(q:RelV y u):x=y:=Option.some.inj (r.abs.symm.trans q.abs)
theorem Vals.inj{xs ys:List V}{us:List Value}(h:Vals xs us)(h':Vals ys us):xs=ys:=by
 induction h generalizing ys with
 |nil=>cases h';rfl
 |cons r t ih=>
  cases h' with
  |cons r' t'=>rw[r.inj r',ih t']
section
variable {X:Cx}{pins:List (Addr×Obj)}{σ:St}{H:Hp}{s:Shared}{a:Addr}{xs ys:List V}
theorem SqL.of{K:PySem.W.Frag}(h:H a=some (.lst xs)):SqL K H a xs:=.inl (.inl h)
theorem SqT.of{K:PySem.W.Frag}(h:H a=some (.tup xs)):SqT K H a xs:=.inl (.inl h)
theorem Inv.list(I:Inv X pins σ H s)(h:SqL X.K H a xs):∃its:List Value,Vals xs its/\PlainL s.heap a its.toArray/\xs.length<=sizeLine:=by
 rcases h with h |⟨o,its,n,hk,hc,hd,hs,hz,r⟩
 ·obtain⟨z,its,n,r,e⟩:=h.ok I.hok;exact⟨its,r,⟨_,n,e,rfl,rfl,rfl⟩,z⟩
 ·refine⟨its.toList,r,⟨o,n,I.kIn a o hk,hc,hd,by simpa using hs⟩,?_⟩;have e:=r.length;simp only[Array.length_toList]at e;omega
theorem Inv.tupleD(I:Inv X pins σ H s)(h:SqT X.K H a xs):∃its:List Value,Vals xs its/\TupD s.heap a its.toArray/\xs.length<=sizeLine:=by
 rcases h with h |⟨o,its,n,hk,hc,hd,hs,hz,r⟩
 ·obtain⟨z,its,r,p⟩:=h.ok I.hok;exact⟨its,r,p,z⟩
 ·refine⟨its.toList,r,⟨o,I.kIn a o hk,hc,⟨n,by simpa using hs⟩,hd⟩,?_⟩;have e:=r.length;simp only[Array.length_toList]at e;omega
theorem Inv.tuple(I:Inv X pins σ H s)(h:SqT X.K H a xs):∃its:List Value,Vals xs its/\IsTup s.heap a its.toArray/\xs.length<=sizeLine:=by
 obtain⟨its,r,p,z⟩:=I.tupleD h;exact⟨its,r,p.isTup,z⟩
theorem Inv.list_inj(I:Inv X pins σ H s)(h:SqL X.K H a xs)(h':SqL X.K H a ys):xs=ys:=by
 obtain⟨its,r,⟨o,n,e,_,_,d⟩,_⟩:=I.list h;obtain⟨its',r',⟨o',n',e',_,_,d'⟩,_⟩:=I.list h';rw[e]at e';cases e';rw[d]at d';injection d' with d1 _
 have:its=its':=by simpa using congrArg Array.toList d1
 subst this;exact r.inj r'
theorem Inv.tuple_inj(I:Inv X pins σ H s)(h:SqT X.K H a xs)(h':SqT X.K H a ys):xs=ys:=by
 obtain⟨its,r,⟨o,e,_,n,d⟩,_⟩:=I.tuple h;obtain⟨its',r',⟨o',e',_,n',d'⟩,_⟩:=I.tuple h';rw[e]at e';cases e';rw[d]at d';injection d' with d1 _
 have:its=its':=by simpa using congrArg Array.toList d1
 subst this;exact r.inj r'
end
abbrev Cx.wish(X:Cx)(E:Value->Shared->Prop):Cx:={ X with xe:=E }
abbrev Cx.nox(X:Cx):Cx:=X.wish λ_ _=>False
theorem Cx.Ok.wish{X:Cx}(ok:X.Ok)(E:Value->Shared->Prop):(X.wish E).Ok :=
 ⟨ok.mod,ok.kind,ok.glob,ok.blt,ok.above,ok.inj,ok.has,ok.cab,ok.hd,ok.frames,ok.stk,ok.exf,ok.bs,ok.bsz,ok.noex,ok.exfs,ok.funs,ok.frf⟩
theorem Cx.Ok.unwish{X:Cx}{E:Value->Shared->Prop}(ok:(X.wish E).Ok):X.Ok :=
 ⟨ok.mod,ok.kind,ok.glob,ok.blt,ok.above,ok.inj,ok.has,ok.cab,ok.hd,ok.frames,ok.stk,ok.exf,ok.bs,ok.bsz,ok.noex,ok.exfs,ok.funs,ok.frf⟩
section
variable {X:Cx}{pins:List (Addr×Obj)}{σ:St}{H:Hp}{s:Shared}{E:Value->Shared->Prop}
theorem Inv.wish(I:Inv X pins σ H s)(E:Value->Shared->Prop):Inv (X.wish E) pins σ H s:=⟨I.ok.wish E,I.os,I.bare,I.base,I.loc,I.cell,I.free,I.freeC,I.pin,I.hok,I.len⟩
theorem Inv.unwish(I:Inv (X.wish E) pins σ H s):Inv X pins σ H s:=⟨I.ok.unwish,I.os,I.bare,I.base,I.loc,I.cell,I.free,I.freeC,I.pin,I.hok,I.len⟩
theorem SP.unwish{D:ziv}{f:Flow}{s':Shared}(h:SP (X.wish E) pins D f s'):SP X pins D f s':=by
 cases f with
 |next=>obtain⟨σ',H',I,q⟩:=h;exact⟨σ',H',I.unwish,q⟩
 |brk=>obtain⟨σ',H',I,q⟩:=h;exact⟨σ',H',I.unwish,q⟩
 |cont=>obtain⟨σ',H',I,q⟩:=h;exact⟨σ',H',I.unwish,q⟩
 |ret u=>obtain⟨v,σ',H',I,r,q⟩:=h;exact⟨v,σ',H',I.unwish,r,q⟩
theorem PE.nox{e:Expr}{t:TE}(h:PE X.nox e t):PE X e t:=λpins s σ H Q I hw=>
 wpAny_mono (h pins s σ H Q (I.wish _) hw) (λ_ _ ⟨v,H',I',r,q⟩=>⟨v,H',I'.unwish,r,q⟩) λ_ _ z=>False.elim z
theorem PSs.nox{st:List Stmt}{t:TS}(h:PSs X.nox st t):PSs X st t:=λpins s σ H D I hw=>
 wpAny_mono (h pins s σ H D (I.wish _) hw) (λ_ _ q=>q.unwish) λ_ _ z=>False.elim z
end
section
variable {X:Cx}{st:Stmt}{rest:List Stmt}{t u:TS}{e:Expr}{te:TE}{pos:Pos}
def zvb:TS:=λD σ H=>D.nx σ H
def zwv(t u:TS):TS:=λD σ H=>t { D with nx:=u D } σ H
theorem zp6:PSs X [] zvb:=λ_ _ σ H _ I h=>wpAny_execs_nil ⟨σ,H,I,h⟩
theorem zbj(h1:PS X st t)(h2:PSs X rest u):PSs X (st::rest) (zwv t u):=by
 intro pins s σ H D I h;refine wpAny_execs_cons (thn (h1 pins s σ H { D with nx:=u D } I h) λf s1 q=>?_)
 cases f with
 |next=>
  obtain⟨σ',H',I',q⟩:=q;exact h2 pins s1 σ' H' D I' q
 |ret v=>exact q
 |brk=>exact q
 |cont=>exact q
theorem zki(h1:PS X st t):PSs X [st] t:=by
 intro pins s σ H D I h;refine wpAny_execs_cons (thn (h1 pins s σ H D I h) λf s1 q=>?_)
 cases f with
 |next=>exact wpAny_execs_nil q
 |ret v=>exact q
 |brk=>exact q
 |cont=>exact q
theorem Inv.quiet{pins:List (Addr×Obj)}{σ:St}{H:Hp}{s:Shared}(I:Inv X pins σ H s):interactive X.env=false:=by simp[interactive,I.ok.kind]
def zvc(te:TE):TS:=λD σ H=>te σ H λ_ H1=>D.nx σ H1
theorem zf9(he:PE X e te)(hs:swapsWith e none pos.line X.env=pure false:=by rfl):PS X (.Expr e pos) (zvc te):=by
 intro pins s σ H D I h;exact wpAny_Expr_any (thn (he pins s σ H _ I h) λv s1 ⟨x,H1,I1,r1,q1⟩=>⟨σ,H1,I1,q1⟩) I.quiet hs
def zww(te:TE):TS:=λD σ H=>te σ H D.rt
theorem zb5(he:PE X e te):PS X (.Return (some e) pos) (zww te):=by
 intro pins s σ H D I h;exact wpAny_Return_some (thn (he pins s σ H _ I h) λv s1 ⟨x,H1,I1,r1,q1⟩=>⟨x,σ,H1,I1,r1,q1⟩)
def zwx(c:TT)(t u:TS):TS:=λD σ H=>c σ H λb H1=>if b=true then t D σ H1 else u D σ H1
theorem zvd{c:Expr}{a b:List Stmt}{tc:TT}(hc:PT X c tc)(ha:PSs X a t)(hb:PSs X b u):PS X (.If c a b pos) (zwx tc t u):=by
 intro pins s σ H D I h;refine wpAny_If (thn (hc pins s σ H _ I h) λd s1 ⟨H1,I1,q1⟩=>?_)
 cases d with
 |true=>exact ha pins s1 σ H1 D I1 q1
 |false=>exact hb pins s1 σ H1 D I1 q1
end
abbrev TG:=V->St->Hp->(St->Hp->Prop)->Prop
def PG(X:Cx)(target:Expr)(t:TG):Prop :=
 ∀(pins:List (Addr×Obj)) (s:Shared) (σ:St) (H:Hp) (v:V) (u:Value) (Q:St->Hp->Prop),Inv X pins σ H s->RelV v u->t v σ H Q ->
  wpAny (model X.prog X.w) X.A (assign target X.env u) (λ_ s'=>∃σ' H',Inv X pins σ' H' s'/\Q σ' H') X.xe s
abbrev zss:=V->V->V->Hp->(Hp->Prop)->Prop
def zve(X:Cx)(t:zss):Prop :=
 ∀(pins:List (Addr×Obj)) (s:Shared) (σ:St) (H:Hp) (o i v:V) (ov iv u:Value) (Q:Hp->Prop),Inv X pins σ H s->RelV o ov->RelV i iv->RelV v u->t o i v H Q ->
  wpAny (model X.prog X.w) X.A (setItem ov iv u) (λ_ s'=>∃H',Inv X pins σ H' s'/\Q H') X.xe s
section
variable {X:Cx}{pos:Pos}
def zrv(i:Nat):TG:=λv σ H Q=>Q (σ.set i (some v)) H
def zwy(to ti:TE)(t:zss):TG:=λv σ H Q=>to σ H λo H1=>ti σ H1 λi H2=>t o i v H2 λH3=>Q σ H3
theorem zga{o i:Expr}{to ti:TE}{t:zss}(ho:PE X o to)(hi:PE X i ti)(hs:zve X t)
  (ha:∀v,assign (.Subscript o i pos) X.env v=(do
   let ov <-holding [v] (eval o X.env)
   let iv <-holding [v,ov] (eval i X.env)
   standAt pos
   holding [v,ov,iv] (setItem ov iv v)
   release [v,ov,iv] []):=by intro _;rfl):PG X (.Subscript o i pos) (zwy to ti t):=by
 intro pins s σ H v u Q I r h;rw[ha];refine wpAny_bind (wpAny_holding (thn (ho pins s σ H _ I h) λov s1 ⟨x,H1,I1,r1,q1⟩=>?_));refine wpAny_bind (wpAny_holding (thn (hi pins s1 σ H1 _ I1 q1) λiv s2 ⟨y,H2,I2,r2,q2⟩=>?_));refine wpAny_bind (wpAny_standAt (wpAny_bind (wpAny_holding (thn (hs pins s2 σ H2 x y v ov iv u _ I2 r1 r2 r q2) λ_ s3 ⟨H3,I3,q3⟩=>?_))));exact wpAny_release ⟨σ,H3,I3,q3⟩
def zst(te:TE)(g:TG):TS:=λD σ H=>te σ H λx H1=>g x σ H1 D.nx
theorem zds{tg e:Expr}{te:TE}{g:TG}(he:PE X e te)(hg:PG X tg g)(hs:swapsWithSole [tg] e pos.line X.env=pure false:=by rfl)(hw:swappedStores [tg] e X.env=pure none:=by rfl)
  (h1:(assignEach [tg] X.env).map (·.2) = [assign tg X.env]:=by rfl):PS X (.Assign [tg] e pos) (zst te g):=by
 intro pins s σ H D I h;refine wpAny_Assign_stores (thn (he pins s σ H _ I h) λv s1 ⟨x,H1,I1,r1,q1⟩=>?_) hs hw;rw[h1];exact thn (hg pins s1 σ H1 x v _ I1 r1 q1) λ_ s2 q=>q
theorem zdt{i:Nat}{x:Str}{e:Expr}{te:TE}{pos':Pos}(hN:X.N.Nodup)(hi:X.N[i]?=some x)(hx:Loc X.env.scope x)(he:PE X e te)(hs:swapsWith e (some (.Name x pos')) pos.line X.env=pure false:=by rfl)(hf:X.fn x=true\/X.env.scope.names.lookup x=some .local:=by first|exact .inl rfl|exact .inr rfl|assumption):
  PS X (.Assign [.Name x pos'] e pos) (zst te (zrv i)):=by
 intro pins s σ H D I h;refine wpAny_Assign_Name (thn (he pins s σ H _ I h) λv s1 ⟨y,H1,I1,r1,q1⟩=>?_) hs;exact zbi I1 hN hi hx r1 (λs2 I2=>⟨_,H1,I2,q1⟩) hf
def zwz(i j:Nat)(ta:TA):TS:=λD σ H=>ta σ H λvs H1=>∃v w,vs = [v,w]/\D.nx ((σ.set i (some v)).set j (some w)) H1
theorem zsu{i j:Nat}{x y:Str}{a b:Expr}{ta:TA}{px py pt:Pos}{kt k2 pt2}(hc:X.calm=true)(hN:X.N.Nodup)(hi:X.N[i]?=some x)(hj:X.N[j]?=some y)(hij:i≠j)
  (hx:X.env.scope.names.lookup x=some .local) (hy:X.env.scope.names.lookup y=some .local) (ha:PA X [a,b] ta)
  (hw:swappedStores [.Tuple [.Name x px,.Name y py] kt pt] (.Tuple [a,b] k2 pt2) X.env=pure (some [x,y]))
  (hs:swapsWithSole [.Tuple [.Name x px,.Name y py] kt pt] (.Tuple [a,b] k2 pt2) pos.line X.env=pure false:=by rfl) :
  PS X (.Assign [.Tuple [.Name x px,.Name y py] kt pt] (.Tuple [a,b] k2 pt2) pos) (zwz i j ta):=by
 intro pins s σ H D I h;rw[exec_Assign_arm];refine wpAny_bind (wpAny_standAt ?_);rw[hs];refine wpAny_bind (wpAny_pure ?_);rw[if_neg (by decide)];refine wpAny_bind (Tuple_ (thn (ha _ pins s σ H _ I h) λus s1 ⟨vs,H1,I1,r1,q1⟩=>?_));obtain⟨v,w,e1,q1⟩:=q1;subst e1;obtain⟨u1,u2,rfl,rv,rw'⟩:∃u1 u2,us = [u1,u2]/\RelV v u1/\RelV w u2:=by
  cases r1 with
  |cons p q=>
   cases q with
   |cons p' q'=>
    cases q';exact⟨_,_,rfl,p,p'⟩
 refine wpAny_newObj_type ?_ (by show 2<=sizeLine;decide);have I2:Inv X pins σ H1 { s1 with heap:=s1.heap.push { cls:=.type "tuple",data:=.seq [u1,u2].toArray } }:=I1.kept (t':=s1.toks) λb o e=>Heap.get?_push_of_some _ e;rw[hw];refine wpAny_bind (wpAny_pure ?_);show wpAny (model X.prog X.w) X.A (do rule "assign.swapped-stores";let items <-unpackItems (.ref s1.heap.objs.size) 2 none;assignInOrder [λv=>bindName X.env y v,λv=>bindName X.env x v] items.reverse;pure Flow.next) _ _ _;refine wpAny_bind (wpAny_rule (wpAny_bind (unpackItems_tuple (items:=#[u1,u2]) (I.ok.hd hc) (IsTup.new s1.heap _) λh' hx'=>?_)));have I3:=I2.kept (h':=h') (t':=s1.toks) λb o e=>hx' b o (Nat.ne_of_lt (Heap.lt_size e)) e;show wpAny _ _ (assignInOrder [λv=>bindName X.env y v,λv=>bindName X.env x v] [u2,u1] >>= λ_=>pure Flow.next) _ _ _;refine wpAny_bind (assignInOrder_cons (wpAny_bindName (zbi I3 hN hj (.inl hy) rw' (λs2 I4=>?_) (.inr hy))));refine assignInOrder_cons (wpAny_bindName (zbi I4 hN hi (.inl hx) rv (λs3 I5=>assignInOrder_nil (wpAny_pure ?_)) (.inr hx)));rw[List.set_comm _ _ (Ne.symm hij)]at I5;exact⟨_,H1,I5,q1⟩
end
section
variable {X:Cx}{pos:Pos}
def zsv(c:TT)(tb:TS):TS:=λD σ H=>∃W:Nat->St->Hp->Prop,(∃m,W m σ H)/\∀m σ H,W m σ H ->
 c σ H λb H1=>if b=true then ∃N:St->Hp->Prop,(∀σ' H',N σ' H'->∃m',m' < m/\W m' σ' H')/\tb { D with nx:=N,ct:=N,bk:=D.nx } σ H1 else D.nx σ H1
theorem znj{c:Expr}{body:List Stmt}{tc:TT}{tb:TS}(hp:PassesOwn (model X.prog X.w) X.A X.env X.xe)(hc:PT X c tc)(hb:PSs X body tb):PS X (.While c body [] pos) (zsv tc tb):=by
 intro pins s σ H D I h;obtain⟨W,⟨m0,w0⟩,turn⟩:=h;refine wpAny_While (codeAny_whileLoop (λn s'=>∃σ' H',Inv X pins σ' H' s'/\W n σ' H') ?_ m0 ⟨σ,H,I,w0⟩);rintro n s1 ⟨σ1,H1,I1,w1⟩;refine wpAny_passesOwn hp (thn (hc pins s1 σ1 H1 _ I1 (turn n σ1 H1 w1)) λb s2 ⟨H2,I2,q2⟩=>?_)
 cases b with
 |true=>
  obtain⟨N,hN,q2⟩:=q2;rw[if_pos rfl];refine wpAny_passesOwn hp (thn (hb pins s2 σ1 H2 _ I2 q2) λf s3 q3=>?_)
  cases f with
  |next=>
   obtain⟨σ3,H3,I3,n3⟩:=q3;obtain⟨m',hm,w3⟩:=hN σ3 H3 n3;exact⟨m',hm,σ3,H3,I3,w3⟩
  |cont=>
   obtain⟨σ3,H3,I3,n3⟩:=q3;obtain⟨m',hm,w3⟩:=hN σ3 H3 n3;exact⟨m',hm,σ3,H3,I3,w3⟩
  |brk=>exact q3
  |ret v=>exact q3
 |false=>
  rw[if_neg Bool.false_ne_true];exact wpAny_execs_nil ⟨σ1,H2,I2,q2⟩
end
structure It where
 go:Nat->Hp->Prop
 yld:Nat->Hp->V->Hp->Prop
 stop:Nat->Hp->Prop
def FpOk(X:Cx)(pins:List (Addr×Obj))(H:Hp)(b:Addr):Prop :=
 H b=none/\b≠X.env.locals/\b∉X.fs/\(b∈X.ex\/X.s₀.heap.objs.size<=b)/\(∀x c,X.env.cells.lookup x=some c->c≠b)/\∀p∈X.pn++pins,p.1≠b
theorem Inv.fpOk{X:Cx}{pins:List (Addr×Obj)}{σ:St}{H H':Hp}{s:Shared}{b:Addr}(I:Inv X pins σ H s)(hb:s.heap.objs.size<=b)(hn:H' b=none):FpOk X pins H' b:=by
 refine⟨hn,Nat.ne_of_gt (Nat.lt_of_lt_of_le I.lt hb),I.nofs hb,.inr (Nat.le_trans I.sz hb),λx c e z=>?_,λp hp z=>?_⟩
 ·obtain⟨v,q⟩:=I.cell x c e;exact absurd (Nat.lt_of_lt_of_le q.lt (by rw[z];exact hb)) (Nat.lt_irrefl _)
 ·exact absurd (Nat.lt_of_lt_of_le (Heap.lt_size (I.pin p hp).1) (by rw[z];exact hb)) (Nat.lt_irrefl _)
structure zgb(P:Program)(w:World)(K:PySem.W.Frag)(tg:Expr)(J:It)(fp:List Addr)(it:Addr)(tn:Nat->Heap->Prop):Prop where
 mem:it∈fp
 obj:∀i h,tn i h->∀b∈fp,∃o,h.get? b=some o/\∀v,o.data ≠ .cell v
 keep:∀i h h',tn i h->(∀b∈fp,∀o,h.get? b=some o->h'.get? b=some o)->tn i h'
 item:∀(X:Cx),X.prog=P->X.w=w->X.K=K->X.calm=true->∀(i:Nat) (pins:List (Addr×Obj)) (s:Shared) (σ:St) (H:Hp) (E:Value->Shared->Prop),Inv X pins σ H s->(∀b∈fp,FpOk X pins H b)->tn i s.heap->J.go i H ->
  wpAny (model P w) X.A (pyNext (.ref it)) (λr s1=>∃u,r=some u /\
   wpAny (model P w) X.A (letOwnedTupleGo tg (.ref it) u) (λ_ s2=>∃x H',Inv X pins σ H' s2/\RelV x u/\J.yld i H x H'/\tn (i+1) s2.heap/\∀b∈fp,H' b=none) E s1) E s
 done:∀(X:Cx),X.prog=P->X.w=w->X.K=K->X.calm=true->∀(i:Nat) (pins:List (Addr×Obj)) (s:Shared) (σ:St) (H:Hp) (E:Value->Shared->Prop),Inv X pins σ H s->(∀b∈fp,FpOk X pins H b)->tn i s.heap->J.stop i H ->
  wpAny (model P w) X.A (pyNext (.ref it)) (λr s1=>r=none/\Inv X pins σ H s1) E s
 self:∀(A:Around) (i:Nat) (s:Shared) (Q:Value->Shared->Prop) (E:Value->Shared->Prop),tn i s.heap->Q (.ref it) s->wpAny (model P w) A (pyIter (.ref it)) Q E s
abbrev TI:=St->Hp->(It->Hp->Prop)->Prop
def PIE(X:Cx)(pins:List (Addr×Obj))(σ:St)(tg:Expr)(R:It->Hp->Prop)(itv:Value)(s2:Shared):Prop :=
 ∃(it:Addr) (fp:List Addr) (tn:Nat->Heap->Prop) (J:It) (H':Hp),itv=.ref it/\Inv X pins σ H' s2/\zgb X.prog X.w X.K tg J fp it tn/\tn 0 s2.heap/\(∀b∈fp,FpOk X pins H' b)/\R J H'
def PI(X:Cx)(tg iter:Expr)(wi:TI):Prop :=
 ∀(pins:List (Addr×Obj)) (s:Shared) (σ:St) (H:Hp) (R:It->Hp->Prop),Inv X pins σ H s->wi σ H R ->
  wpAny (model X.prog X.w) X.A (eval iter X.env) (λv s1=>wpAny (model X.prog X.w) X.A (pyIter v) (PIE X pins σ tg R) X.xe s1) X.xe s
theorem znk{M:Model}{A:Around}{E:Value->Shared->Prop}{s:Shared}{tg:Expr}{it:Addr}{u:Value}{o:Obj}{n:String}{vs:Array Value}{Q:Unit->Shared->Prop}(ho:s.heap.get? it=some o)(hc:o.cls=.type n)(hd:o.data=.fields vs)
  (hn : ["enumerate", "zip", "dict_itemiterator", "dict_reverseitemiterator", "odict_iterator", "itertools.zip_longest", "itertools.pairwise"].contains n=false) (hQ:Q () s):wpAny M A (letOwnedTupleGo tg (.ref it) u) Q E s:=by
 unfold letOwnedTupleGo
 cases tg <;> first
  |exact wpAny_pure hQ
  |(cases u <;> first
    |exact wpAny_pure hQ
    |(refine wpAny_bind (wpAny_load ho ?_);rw[hc,hd];show wpAny M A (if (["enumerate", "zip", "dict_itemiterator", "dict_reverseitemiterator", "odict_iterator", "itertools.zip_longest", "itertools.pairwise"].contains n && vs[0]? == some (rawInt _))=true then _ else _) Q E s;rw[if_neg (by intro h;rw[hn,Bool.false_and]at h;cases h)];exact wpAny_pure hQ))
def Itl(K:PySem.W.Frag)(a:Addr):It :=
 ⟨λi H=>∃xs x,SqL K H a xs/\xs[i]?=some x,λi H x H'=>H'=H/\∀xs,SqL K H a xs->xs[i]?=some x,λi H=>∃xs,SqL K H a xs/\xs.length<=i⟩
def Itt(K:PySem.W.Frag)(a:Addr):It :=
 ⟨λi H=>∃xs x,SqT K H a xs/\xs[i]?=some x,λi H x H'=>H'=H/\∀xs,SqT K H a xs->xs[i]?=some x,λi H=>∃xs,SqT K H a xs/\xs.length<=i⟩
def Itr(lo:Int)(n:Nat):It:=⟨λi _=>i<n,λi H x H'=>H'=H/\x=.int (lo+i),λi _=>n<=i⟩
theorem zl2{P:Program}{w:World}{K:PySem.W.Frag}{tg:Expr}(a it:Addr):zgb P w K tg (Itl K a) [it] it (λi h=>h.IsListIter it a i) where
 mem:=by simp
 obj:=λi h st b hb=>by
  have e:b=it:=by simpa using hb
  subst e;obtain⟨o,e,c,d⟩:=st;exact⟨o,e,λv z=>by rw[d]at z;cases z⟩
 keep:=λi h h' st k=>st.at λo e=>k it (by simp) o e
 item:=by
  intro X hP hw hK hc i pins s σ H E I hf st hg;subst hP hw hK;obtain⟨xs,x,hq,hx⟩:=hg;obtain⟨its,rv,p,hz⟩:=I.list hq;obtain⟨u,hu,ru⟩:=rv.get hx;obtain⟨f0,f1,f2,f3,f4,f5⟩:=hf it (by simp);refine wpAny_pyNext_list_item st p.isList (x:=u) (by simpa using hu) λh' st' sb=>?_;have I1:Inv X pins σ H { s with heap:=h' }:=I.turned (t':=s.toks) (λb o hb e=>(sb.2 b hb).trans e) f0 f1 f3 f4 f5;obtain⟨o,e,c,d⟩:=id st';exact⟨u,rfl,znk (s:={ s with heap:=h' }) e c d (by decide) ⟨x,H,I1,ru,⟨rfl,λys hy=>by rw[I.list_inj hy hq];exact hx⟩,st',λb hb=>(hf b hb).1⟩⟩
 done:=by
  intro X hP hw hK hc i pins s σ H E I hf st hg;subst hP hw hK;obtain⟨xs,hq,hx⟩:=hg;obtain⟨its,rv,p,hz⟩:=I.list hq;obtain⟨f0,f1,f2,f3,f4,f5⟩:=hf it (by simp);have hl:=rv.length;exact wpAny_pyNext_list_end (I.ok.hd hc) st p.isList (by simp;omega) λh' eb=>⟨rfl,I.turned (t':=s.toks) (λb o hb e=>eb b o hb e) f0 f1 f3 f4 f5⟩
 self:=λ_ _ _ _ _ st h=>wpAny_pyIter_listiter st h
theorem ziw{P:Program}{w:World}{K:PySem.W.Frag}{tg:Expr}(a it:Addr):zgb P w K tg (Itt K a) [it] it (λi h=>h.IsTupleIter it a i) where
 mem:=by simp
 obj:=λi h st b hb=>by
  have e:b=it:=by simpa using hb
  subst e;obtain⟨o,e,c,d⟩:=st;exact⟨o,e,λv z=>by rw[d]at z;cases z⟩
 keep:=λi h h' st k=>st.at λo e=>k it (by simp) o e
 item:=by
  intro X hP hw hK hc i pins s σ H E I hf st hg;subst hP hw hK;obtain⟨xs,x,hq,hx⟩:=hg;obtain⟨its,rv,p,hz⟩:=I.tuple hq;obtain⟨u,hu,ru⟩:=rv.get hx;obtain⟨f0,f1,f2,f3,f4,f5⟩:=hf it (by simp);refine wpAny_pyNext_tuple_item st (show s.heap.IsTuple a its.toArray from p) (x:=u) (by simpa using hu) λh' st' sb=>?_;have I1:Inv X pins σ H { s with heap:=h' }:=I.turned (t':=s.toks) (λb o hb e=>(sb.2 b hb).trans e) f0 f1 f3 f4 f5;obtain⟨o,e,c,d⟩:=id st';exact⟨u,rfl,znk (s:={ s with heap:=h' }) e c d (by decide) ⟨x,H,I1,ru,⟨rfl,λys hy=>by rw[I.tuple_inj hy hq];exact hx⟩,st',λb hb=>(hf b hb).1⟩⟩
 done:=by
  intro X hP hw hK hc i pins s σ H E I hf st hg;subst hP hw hK;obtain⟨xs,hq,hx⟩:=hg;obtain⟨its,rv,p,hz⟩:=I.tuple hq;obtain⟨f0,f1,f2,f3,f4,f5⟩:=hf it (by simp);have hl:=rv.length;exact wpAny_pyNext_tuple_end (I.ok.hd hc) st (show s.heap.IsTuple a its.toArray from p) (by simp;omega) λh' eb=>⟨rfl,I.turned (t':=s.toks) (λb o hb e=>eb b o hb e) f0 f1 f3 f4 f5⟩
 self:=λ_ _ _ _ _ st h=>wpAny_pyIter_tupleiter st h
theorem zix{P:Program}{w:World}{K:PySem.W.Frag}{tg:Expr}(it:Addr)(lo:Int)(n:Nat):zgb P w K tg (Itr lo n) [it] it (λi h=>IsRangeIter h it (lo+(i:Nat) * 1) ((n:Int)-(i:Nat)) 1) where
 mem:=by simp
 obj:=λi h st b hb=>by
  have e:b=it:=by simpa using hb
  subst e;exact⟨_,st,λv z=>by
   have z':Data.fields _=Data.cell v:=z
   cases z'⟩
 keep:=λi h h' st k=>k it (by simp) _ st
 item:=by
  intro X hP hw hK hc i pins s σ H E I hf st hg;subst hP hw hK;obtain⟨f0,f1,f2,f3,f4,f5⟩:=hf it (by simp);have W:=Walks.range (prog:=X.prog) (w:=X.w) (I.ok.hd hc) it lo 1 n;refine W.item i s _ _ hg st λv h' tk hv st' kk=>?_;obtain⟨t,rfl⟩:=hv;have I1:Inv X pins σ H { s with heap:=h',toks:=tk }:=I.turned (λb o hb e=>kk b o (by simpa using hb) e) f0 f1 f3 f4 f5;refine⟨_,rfl,znk (s:={ s with heap:=h',toks:=tk }) (n := "range_iterator") st' rfl rfl (by decide) ⟨.int (lo+i),H,I1,⟨t,?_⟩,⟨rfl,rfl⟩,st',λb hb=>(hf b hb).1⟩⟩;rw[Int.mul_one]
 done:=by
  intro X hP hw hK hc i pins s σ H E I hf st hg;subst hP hw hK;obtain⟨f0,f1,f2,f3,f4,f5⟩:=hf it (by simp);exact wpAny_pyNext_range_end (I.ok.hd hc) st (by have:n<=i:=hg;omega) λh' eb=>⟨rfl,I.turned (t':=s.toks) (λb o hb e=>eb b o hb e) f0 f1 f3 f4 f5⟩
 self:=λ_ _ _ _ _ st h=>wpAny_pyIter_rangeiter st h
section
variable {X:Cx}{tg:Expr}
theorem zhc{pins:List (Addr×Obj)}{σ:St}{H:Hp}{s:Shared}{R:It->Hp->Prop}{E:Value->Shared->Prop}{lo hi:Int}{t u v:Tok}{tk:Nat}(I:Inv X pins σ H s)(h1 : -(2 ^ 62)<=lo)(h2:lo<2 ^ 62)(h3 : -(2 ^ 62)<=hi)(h4:hi<2 ^ 62)
  (q:R (Itr lo (hi-lo).toNat) H):wpAny (model X.prog X.w) X.A (pyIter (.ref s.heap.objs.size)) (PIE X pins σ tg R) E { s with heap:=s.heap.push { cls:=.type "range",data:=.fields #[.int lo t,.int hi u,.int 1 v] },toks:=tk }:=by
 refine wpAny_pyIter_range (IsRange.new ..) (small_one h1 h2 h3 h4) ?_;have I1:Inv X pins σ H { s with heap:=s.heap.push { cls:=.type "range",data:=.fields #[.int lo t,.int hi u,.int 1 v] },toks:=tk }:=I.kept λb o e=>Heap.get?_push_of_some _ e;refine⟨(s.heap.push { cls:=.type "range",data:=.fields #[.int lo t,.int hi u,.int 1 v] }).objs.size,[(s.heap.push { cls:=.type "range",data:=.fields #[.int lo t,.int hi u,.int 1 v] }).objs.size],_,_,H,rfl,
  I1.kept (t':=tk) λb o e=>Heap.get?_push_of_some _ e,zix _ lo (hi-lo).toNat,?_,λb hb=>?_,q⟩
 ·have e1:lo+((0:Nat):Int) * 1=lo:=by simp
  have e2:(((hi-lo).toNat:Nat):Int)-((0:Nat):Int)=Builtin.Range.rangeSize lo hi 1:=by rw[rangeSize_one];split <;> omega
  show IsRangeIter _ _ (lo+((0:Nat):Int) * 1) ((((hi-lo).toNat:Nat):Int)-((0:Nat):Int)) 1;rw[e1,e2];exact Heap.get?_push_size _ rfl
 ·have e:b=(s.heap.push { cls:=.type "range",data:=.fields #[.int lo t,.int hi u,.int 1 v] }).objs.size:=by simpa using hb
  subst e;exact I1.fpOk (Nat.le_refl _) (I1.hok.fresh (Nat.le_refl _))
def zvf(ta:TA):TI:=λσ H R=>ta σ H λvs H1=>∃j:Int,vs = [.int j]/\-(2 ^ 62)<=j/\j<2 ^ 62/\R (Itr 0 j.toNat) H1
def zvg(ta:TA):TI:=λσ H R=>ta σ H λvs H1=>∃i j:Int,vs = [.int i,.int j]/\(-(2 ^ 62)<=i/\i<2 ^ 62/\-(2 ^ 62)<=j/\j<2 ^ 62)/\R (Itr i (j-i).toNat) H1
theorem zl3{a:Expr}{ta:TA}{p pos:Pos}(hg:Gl X "range")(hm:X.mg "range" = none)(ha:PA X [a] ta)(hs:starEach [a] X.env = [(false,eval a X.env)]:=by rfl):PI X tg (.Call (.Name "range" p) [a] [] pos) (zvf ta):=by
 intro pins s σ H R I h;refine Call_ (kx I hg hm boot_range (PyProof.Rows.callWith_type1 (thn (ha pos pins s σ H _ I h) λus s1 ⟨vs,H1,I1,r1,q1⟩=>?_) hs rfl));obtain⟨j,e,q1,q2,q⟩:=q1;subst e
 cases r1 with
 |cons r rr=>
  cases rr;obtain⟨t,rfl⟩:=r;exact call_range_1 (zhc I1 (by omega) (by omega) q1 q2 (by simpa using q))
theorem zl4{a b:Expr}{ta:TA}{p pos:Pos}(hg:Gl X "range")(hm:X.mg "range" = none)(ha:PA X [a,b] ta)(hs:starEach [a,b] X.env = [(false,eval a X.env),(false,eval b X.env)]:=by rfl)(hs2:starEach [b] X.env = [(false,eval b X.env)]:=by rfl):
  PI X tg (.Call (.Name "range" p) [a,b] [] pos) (zvg ta):=by
 intro pins s σ H R I h;refine Call_ (kx I hg hm boot_range (PyProof.Rows.callWith_type1 (thn (ha pos pins s σ H _ I h) λus s1 ⟨vs,H1,I1,r1,q1⟩=>?_) (by rw[hs,hs2]) (by rw[hs2];rfl)));obtain⟨i,j,e,⟨q1,q2,q3,q4⟩,q⟩:=q1;subst e
 cases r1 with
 |cons r rr=>
  cases rr with
  |cons r' rr=>
   cases rr;obtain⟨t,rfl⟩:=r;obtain⟨t',rfl⟩:=r';exact call_range_2 (zhc I1 q1 q2 q3 q4 q)
def zw0(wi:TI)(g:TG)(tb:TS):TS:=λD σ H=>wi σ H λJ H1=>∃W:Nat->Nat->St->Hp->Prop,(∃m,W 0 m σ H1)/\∀i m σ H,W i m σ H ->
 (J.stop i H/\D.nx σ H)\/(J.go i H/\∃N:St->Hp->Prop,(∀σ' H',N σ' H'->∃m',m' < m/\W (i+1) m' σ' H')/\∀x H',J.yld i H x H'->g x σ H' λσ2 H2=>tb { D with nx:=N,ct:=N,bk:=D.nx } σ2 H2)
def za3(fp:List Addr)(h:Heap):List (Addr×Obj):=fp.filterMap λb=>(h.get? b).map λo=>(b,o)
theorem wn{fp:List Addr}{h:Heap}{b:Addr}{o:Obj}(hb:b∈fp)(e:h.get? b=some o):(b,o)∈za3 fp h:=List.mem_filterMap.mpr ⟨b,hb,by rw[e];rfl⟩
theorem zl5{fp:List Addr}{h:Heap}{p:Addr×Obj}(hp:p∈za3 fp h):p.1∈fp/\h.get? p.1=some p.2:=by
 obtain⟨b,hb,e⟩:=List.mem_filterMap.mp hp
 cases q:h.get? b with
 |none=>rw[q]at e;cases e
 |some o=>
  rw[q]at e;have e':(b,o)=p:=Option.some.inj e;subst e';exact⟨hb,q⟩
theorem Inv.pinned{pins:List (Addr×Obj)}{σ:St}{H:Hp}{s:Shared}{fp:List Addr}(I:Inv X pins σ H s)(hf:∀b∈fp,FpOk X pins H b)(ho:∀b∈fp,∃o,s.heap.get? b=some o/\∀v,o.data ≠ .cell v):Inv X (pins++za3 fp s.heap) σ H s :=
 I.pins_of λp hp=>(List.mem_append.mp hp).elim (λz=>I.pin p (List.mem_append_right _ z)) λz=>by
  obtain⟨hb,e⟩:=zl5 z;obtain⟨f0,f1,f2,_⟩:=hf p.1 hb;obtain⟨o,e',d⟩:=ho p.1 hb;rw[e]at e';cases e';exact⟨e,f0,f1,f2,d⟩
theorem Inv.unpinned{pins pl:List (Addr×Obj)}{σ:St}{H:Hp}{s:Shared}(I:Inv X (pins++pl) σ H s):Inv X pins σ H s:=I.pins_of λp hp=>I.pin p (List.mem_append_right _ (List.mem_append_left _ hp))
theorem zsw{iter:Expr}{body:List Stmt}{wi:TI}{g:TG}{tb:TS}{pos:Pos}(hp:PassesOwn (model X.prog X.w) X.A X.env X.xe)(hc:X.calm=true)(hi:PI X tg iter wi)(hg:PG X tg g)(hb:PSs X body tb)
  (hs:∀x,foldedSetIterable iter X.env x=pure x:=by intro _;rfl):PS X (.For tg iter body [] pos) (zw0 wi g tb):=by
 intro pins s σ H D I h;refine wpAny_For (thn (hi pins s σ H _ I h) λv s1 h1=>thn h1 λitv s2 h2=>?_) hs;obtain⟨it,fp,tn,J,H2,e,I2,T,st2,f2,W,⟨m0,w0⟩,turn⟩:=h2;subst e
 -- what stays true of the iterator's objects through the loop
 have stat:∀{H':Hp},(∀b∈fp,H' b=none)->∀b∈fp,FpOk X pins H' b:=λhn b hb=>⟨hn b hb,(f2 b hb).2⟩
 refine codeAny_forLoop_any (λn s'=>∃i σ' H',Inv X pins σ' H' s'/\tn i s'.heap/\(∀b∈fp,H' b=none)/\W i n σ' H') ?_ m0 ⟨0,σ,H2,I2,st2,λb hb=>(f2 b hb).1,w0⟩;rintro n s3 ⟨i,σ3,H3,I3,st3,fr3,w3⟩;rcases turn i n σ3 H3 w3 with⟨stop,qn⟩ |⟨go,N,hN,step⟩
 ·refine wpAny_passesOwn hp (thn (T.done X rfl rfl rfl hc i pins s3 σ3 H3 X.xe I3 (stat fr3) st3 stop) λr s4 ⟨hr,I4⟩=>?_);subst hr;exact wpAny_execs_nil ⟨σ3,H3,I4,qn⟩
 ·refine wpAny_passesOwn hp (thn (T.item X rfl rfl rfl hc i pins s3 σ3 H3 X.xe I3 (stat fr3) st3 go) λr s4 ⟨u,hr,h4⟩=>?_);subst hr;refine wpAny_passesOwn hp (thn h4 λ_ s5 ⟨x,H5,I5,r5,y5,st5,fr5⟩=>?_);have I5':=I5.pinned (stat fr5) (T.obj _ _ st5);refine wpAny_passesOwn hp (thn (hg _ s5 σ3 H5 x u _ I5' r5 (step x H5 y5)) λ_ s6 ⟨σ6,H6,I6,q6⟩=>?_);refine wpAny_passesOwn hp (thn (hb _ s6 σ6 H6 _ I6 q6) λf s7 q7=>?_)
  have again:∀{σ7:St}{H7:Hp},Inv X (pins++za3 fp s5.heap) σ7 H7 s7->N σ7 H7->∃m,m<n/\∃i σ' H',Inv X pins σ' H' s7/\tn i s7.heap/\(∀b∈fp,H' b=none)/\W i m σ' H':=λ{σ7 H7} I7 n7=>by
   obtain⟨m',hm,w7⟩:=hN σ7 H7 n7;refine⟨m',hm,i+1,σ7,H7,I7.unpinned,T.keep _ _ _ st5 λb hb o e=>(I7.pin (b,o) (List.mem_append_right _ (List.mem_append_right _ (wn hb e)))).1,λb hb=>?_,w7⟩;obtain⟨o,e,d⟩:=T.obj _ _ st5 b hb;exact(I7.pin (b,o) (List.mem_append_right _ (List.mem_append_right _ (wn hb e)))).2.1
  cases f with
  |next=>obtain⟨σ7,H7,I7,n7⟩:=q7;exact again I7 n7
  |cont=>obtain⟨σ7,H7,I7,n7⟩:=q7;exact again I7 n7
  |brk=>obtain⟨σ7,H7,I7,q7⟩:=q7;exact⟨σ7,H7,I7.unpinned,q7⟩
  |ret v=>obtain⟨x7,σ7,H7,I7,r7,q7⟩:=q7;exact⟨x7,σ7,H7,I7.unpinned,r7,q7⟩
end
abbrev R2:=V->V->Hp->VK->Prop
def OpR(X:Cx)(f:Value->Value->Sem Value)(r:R2):Prop :=
 ∀(pins:List (Addr×Obj)) (s:Shared) (σ:St) (H:Hp) (x y:V) (v u:Value) (Q:VK),Inv X pins σ H s->RelV x v->RelV y u->r x y H Q ->
  wpAny (model X.prog X.w) X.A (f v u) (EP X pins σ Q) X.xe s
def UnR(X:Cx)(f:Value->Sem Value)(r:V->Hp->VK->Prop):Prop :=
 ∀(pins:List (Addr×Obj)) (s:Shared) (σ:St) (H:Hp) (x:V) (v:Value) (Q:VK),Inv X pins σ H s->RelV x v->r x H Q ->
  wpAny (model X.prog X.w) X.A (f v) (EP X pins σ Q) X.xe s
def qu(X:Cx)(f:Value)(r:List V->Hp->VK->Prop):Prop :=
 ∀(pins:List (Addr×Obj)) (s:Shared) (σ:St) (H:Hp) (xs:List V) (us:List Value) (Q:VK),Inv X pins σ H s->Vals xs us->r xs H Q ->
  wpAny (model X.prog X.w) X.A (call f us) (EP X pins σ Q) X.xe s
def zw1(X:Cx)(r:V->Hp->(Bool->Hp->Prop)->Prop):Prop :=
 ∀(pins:List (Addr×Obj)) (s:Shared) (σ:St) (H:Hp) (x:V) (v:Value) (Q:Bool->Hp->Prop),Inv X pins σ H s->RelV x v->r x H Q ->
  wpAny (model X.prog X.w) X.A (truthy v) (TP X pins σ Q) X.xe s
def tOp(r:R2)(ta tb:TE):TE:=λσ H Q=>ta σ H λx H1=>tb σ H1 λy H2=>r x y H2 Q
def tUn(r:V->Hp->VK->Prop)(ta:TE):TE:=λσ H Q=>ta σ H λx H1=>r x H1 Q
def rI(C:Int->Int->Prop)(g:Int->Int->V):R2:=λx y H Q=>∃i j,x=.int i/\y=.int j/\C i j/\Q (g i j) H
def rI0(g:Int->Int->V):R2:=λx y H Q=>∃i j,x=.int i/\y=.int j/\Q (g i j) H
def rU(g:Int->V):V->Hp->VK->Prop:=λx H Q=>∃i,x=.int i/\Q (g i) H
section
variable {X:Cx}{a b c:Expr}{ta tb tc:TE}{pos:Pos}
theorem zvh(ha:PE X a ta)(hb:PE X b tb){pins:List (Addr×Obj)}{s:Shared}{σ:St}{H:Hp}{R:V->V->Hp->Prop}(I:Inv X pins σ H s)
  (h:ta σ H λx H1=>tb σ H1 λy H2=>R x y H2) {Q:Value->Shared->Prop}{f:Value->Value->Sem Value}
  (hf:∀v u s2 x y H2,Inv X pins σ H2 s2->RelV x v->RelV y u->R x y H2->wpAny (model X.prog X.w) X.A (f v u) Q X.xe s2) :
  wpAny (model X.prog X.w) X.A (eval a X.env) (λv s₁=>wpAny (model X.prog X.w) X.A (eval b X.env) (λu s₂=>wpAny (model X.prog X.w) X.A (f v u) Q X.xe s₂) X.xe s₁) X.xe s:=by
 refine thn (ha pins s σ H _ I h) λv s1 ⟨x,H1,I1,r1,q1⟩=>?_;refine thn (hb pins s1 σ H1 _ I1 q1) λu s2 ⟨y,H2,I2,r2,q2⟩=>?_;exact hf v u s2 x y H2 I2 r1 r2 q2
theorem zhd{op:Operator}{r:R2}(ho:OpR X (binaryOp op) r)(ha:PE X a ta)(hb:PE X b tb):PE X (.BinOp a op b pos) (tOp r ta tb):=by
 intro pins s σ H Q I h;exact wpAny_BinOp (zvh ha hb I h λv u s2 x y H2 I2 rx ry q=>ho pins s2 σ H2 x y v u Q I2 rx ry q)
theorem zvi{op:UnaryOp}{r:V->Hp->VK->Prop}(ho:UnR X (unaryOp op) r)(ha:PE X a ta):PE X (.UnaryOp op a pos) (tUn r ta):=by
 intro pins s σ H Q I h;exact UnaryOp_ (thn (ha pins s σ H _ I h) λv s1 ⟨x,H1,I1,r1,q1⟩=>ho pins s1 σ H1 x v Q I1 r1 q1)
theorem opI{f:Value->Value->Sem Value}{C:Int->Int->Prop}{g:Int->Int->Int}
  (rule:∀(i j:Int) (t u:Tok) (s:Shared) (Q:Value->Shared->Prop) (E:Value->Shared->Prop),C i j->Q (.int (g i j) s.toks) { s with toks:=s.toks+1 }->wpAny (model X.prog X.w) X.A (f (.int i t) (.int j u)) Q E s) :
  OpR X f (rI C λi j=>.int (g i j)):=by
 intro pins s σ H x y v u Q I rx ry h;obtain⟨i,j,rfl,rfl,hc,q⟩:=h;obtain⟨t,rfl⟩:=rx;obtain⟨t',rfl⟩:=ry;exact rule i j t t' s _ _ hc ⟨.int (g i j),H,I.tok _,⟨_,rfl⟩,q⟩
theorem zsx{f:Value->Value->Sem Value}{g:Int->Int->Int}
  (rule:∀(i j:Int) (t u:Tok) (s:Shared) (Q:Value->Shared->Prop) (E:Value->Shared->Prop),Q (.int (g i j) s.toks) { s with toks:=s.toks+1 }->wpAny (model X.prog X.w) X.A (f (.int i t) (.int j u)) Q E s) :
  OpR X f (rI0 λi j=>.int (g i j)):=by
 intro pins s σ H x y v u Q I rx ry h;obtain⟨i,j,rfl,rfl,q⟩:=h;obtain⟨t,rfl⟩:=rx;obtain⟨t',rfl⟩:=ry;exact rule i j t t' s _ _ ⟨.int (g i j),H,I.tok _,⟨_,rfl⟩,q⟩
theorem zp7{f:Value->Value->Sem Value}{g:Int->Int->Bool}
  (rule:∀(i j:Int) (t u:Tok) (s:Shared) (Q:Value->Shared->Prop) (E:Value->Shared->Prop),Q (.bool (g i j)) s->wpAny (model X.prog X.w) X.A (f (.int i t) (.int j u)) Q E s) :
  OpR X f (rI0 λi j=>.bl (g i j)):=by
 intro pins s σ H x y v u Q I rx ry h;obtain⟨i,j,rfl,rfl,q⟩:=h;obtain⟨t,rfl⟩:=rx;obtain⟨t',rfl⟩:=ry;exact rule i j t t' s _ _ ⟨.bl (g i j),H,I,rfl,q⟩
def zp8(i j:Int):Prop:=0<=j/\j<=1000000/\i.natAbs<2 ^ 64
def CMul(i j:Int):Prop:=(-(2 ^ 64)<i/\i<2 ^ 64)\/(-(2 ^ 64)<j/\j<2 ^ 64)
theorem CMul.ok{i j:Int}(h:CMul i j):IntMulOk i j:=by
 rcases h with⟨h1,h2⟩ |⟨h1,h2⟩
 ·exact .of_left (intBits_le_64 h1 h2)
 ·exact .of_right (intBits_le_64 h1 h2)
theorem ziy(k:Nat):(0:Int)<=2 ^ k:=by
 rw[two_pow_cast];exact Int.natCast_nonneg _
theorem znl:OpR X (binaryOp .Add) (rI0 λi j=>.int (i+j)):=zsx λ_ _ _ _ _ _ _ q=>add_int q
theorem zsy:OpR X (binaryOp .Sub) (rI0 λi j=>.int (i-j)):=zsx λ_ _ _ _ _ _ _ q=>sub_int q
theorem zsz:OpR X (binaryOp .Mult) (rI CMul λi j=>.int (i * j)):=opI λ_ _ _ _ _ _ _ hc q=>mul_int q hc.ok
theorem ziz:OpR X (binaryOp .Mod) (rI (λ_ j=>0<j) λi j=>.int (i % j)):=opI λi j _ _ _ _ _ hc q=>by
 have h1:(0:Int)<j:=hc;exact mod_int' (by omega) (by rw[Int.fmod_eq_emod_of_nonneg i (by omega)];exact q)
theorem zs0:OpR X (binaryOp .Pow) (rI zp8 λi j=>.int (i ^ j.toNat)):=opI λ_ _ _ _ _ _ _ hc q=>pow_int_small hc.1 hc.2.1 hc.2.2 q
theorem zs1:OpR X (binaryOp .LShift) (rI zp8 λi j=>.int (i * 2 ^ j.toNat)):=opI λ_ _ _ _ _ _ _ hc q=>lshift_int_small hc.1 hc.2.1 hc.2.2 q
theorem zs2:OpR X (binaryOp .RShift) (rI (λ_ j=>0<=j) λi j=>.int (i / 2 ^ j.toNat)):=opI λi j _ _ _ _ _ hc q=>
 rshift_int hc (by rw[Int.fdiv_eq_ediv_of_nonneg i (ziy _)];exact q)
theorem zs3:OpR X (binaryOp .BitAnd) (rI0 λi j=>.int (Builtin.bitAnd i j)):=zsx λ_ _ _ _ _ _ _ q=>and_int q
theorem unI{f:Value->Sem Value}{g:Int->Int}
  (rule:∀(i:Int) (t:Tok) (s:Shared) (Q:Value->Shared->Prop) (E:Value->Shared->Prop),Q (.int (g i) s.toks) { s with toks:=s.toks+1 }->wpAny (model X.prog X.w) X.A (f (.int i t)) Q E s) :
  UnR X f (rU λi=>.int (g i)):=by
 intro pins s σ H x v Q I rx h;obtain⟨i,rfl,q⟩:=h;obtain⟨t,rfl⟩:=rx;exact rule i t s _ _ ⟨.int (g i),H,I.tok _,⟨_,rfl⟩,q⟩
theorem zs4:UnR X (unaryOp .USub) (rU λi=>.int (-i)):=unI λ_ _ _ _ _ q=>neg_int q
end
def zs5:V->V->Bool
 |.non,.non=>true|.non,.int _=>true|.int _,.non=>true|.non,.bl _=>true|.bl _,.non=>true|.non,.str _=>true|.str _,.non=>true
 |.int _,.int _=>true|.bl _,.bl _=>true|.str _,.str _=>true|.byt _,.byt _=>true
 |.int _,.str _=>true|.str _,.int _=>true|.bl _,.str _=>true|.str _,.bl _=>true
 |_,_=>false
def rEq:R2:=λx y H Q=>zs5 x y=true/\Q (.bl (decide (x=y))) H
def rNe:R2:=λx y H Q=>zs5 x y=true/\Q (.bl (!decide (x=y))) H
theorem zkj{i j:Int}:decide (V.int i=V.int j)=(i == j):=by
 rw[Bool.eq_iff_iff];simp
theorem znm{i j:Bool}:decide (V.bl i=V.bl j)=(i == j):=by
 rw[Bool.eq_iff_iff];simp
theorem zkk{i j:Str}:decide (V.str i=V.str j)=(i == j):=by
 rw[Bool.eq_iff_iff];simp
theorem zkl{i j:Array UInt8}:decide (V.byt i=V.byt j)=(i.toList == j.toList):=by
 rw[Bool.eq_iff_iff]
 cases i
 cases j;simp
section
variable {X:Cx}{a b c:Expr}{ta tb tc:TE}{pos:Pos}
theorem y8{pins:List (Addr×Obj)}{σ:St}{H:Hp}{s:Shared}{Q:VK}{k k':Bool}(I:Inv X pins σ H s)(q:Q (.bl k) H)(e:k=k'):EP X pins σ Q (.bool k') s:=by
 subst e;exact⟨.bl k,H,I,rfl,q⟩
theorem zrw:OpR X (compareOp .Eq) rEq:=by
 intro pins s σ H x y v u Q I rx ry h;obtain⟨hs,q⟩:=h
 cases x with
 |non=>
  cases rx
  cases y with
  |non=>cases ry;exact PySem.EqNone.eq_none_none (y8 I q (by simp))
  |bl j=>cases ry;exact PySem.EqNone.eq_none_bool (y8 I q (by simp))
  |int j=>obtain⟨t',rfl⟩:=ry;exact PySem.EqNone.eq_none_int (y8 I q (by simp))
  |str j=>obtain⟨t',rfl⟩:=ry;exact PySem.EqNone.eq_none_str (y8 I q (by simp))
  |_=>exact absurd (show false=true from hs) Bool.false_ne_true
 |bl i=>
  cases rx
  cases y with
  |non=>cases ry;exact PySem.EqNone.eq_bool_none (y8 I q (by simp))
  |bl j=>cases ry;exact eq_bool (y8 I q znm)
  |str j=>obtain⟨t',rfl⟩:=ry;exact PySem.EqMixed.eq_bool_str (y8 I q (by simp))
  |_=>exact absurd (show false=true from hs) Bool.false_ne_true
 |int i=>
  obtain⟨t,rfl⟩:=rx
  cases y with
  |non=>cases ry;exact PySem.EqNone.eq_int_none (y8 I q (by simp))
  |int j=>obtain⟨t',rfl⟩:=ry;exact eq_int (y8 I q zkj)
  |str j=>obtain⟨t',rfl⟩:=ry;exact PySem.EqMixed.eq_int_str (y8 I q (by simp))
  |_=>exact absurd (show false=true from hs) Bool.false_ne_true
 |str i=>
  obtain⟨t,rfl⟩:=rx
  cases y with
  |non=>cases ry;exact PySem.EqNone.eq_str_none (y8 I q (by simp))
  |bl j=>cases ry;exact PySem.EqMixed.eq_str_bool (y8 I q (by simp))
  |int j=>obtain⟨t',rfl⟩:=ry;exact PySem.EqMixed.eq_str_int (y8 I q (by simp))
  |str j=>obtain⟨t',rfl⟩:=ry;exact eq_str (y8 I q zkk)
  |_=>exact absurd (show false=true from hs) Bool.false_ne_true
 |byt i=>
  obtain⟨t,rfl⟩:=rx
  cases y with
  |byt j=>obtain⟨t',rfl⟩:=ry;exact PySem.W.eq_bytes (y8 I q zkl)
  |_=>exact absurd (show false=true from hs) Bool.false_ne_true
 |_=>cases y <;> exact absurd (show false=true from hs) Bool.false_ne_true
theorem zvj:OpR X (compareOp .NotEq) rNe:=by
 intro pins s σ H x y v u Q I rx ry h;obtain⟨hs,q⟩:=h
 cases x with
 |non=>
  cases rx
  cases y with
  |non=>cases ry;exact PySem.EqNone.ne_none_none (y8 I q (by simp))
  |bl j=>cases ry;exact PySem.EqNone.ne_none_bool (y8 I q (by simp))
  |int j=>obtain⟨t',rfl⟩:=ry;exact PySem.EqNone.ne_none_int (y8 I q (by simp))
  |str j=>obtain⟨t',rfl⟩:=ry;exact PySem.EqNone.ne_none_str (y8 I q (by simp))
  |_=>exact absurd (show false=true from hs) Bool.false_ne_true
 |bl i=>
  cases rx
  cases y with
  |non=>cases ry;exact PySem.EqNone.ne_bool_none (y8 I q (by simp))
  |bl j=>cases ry;exact ne_bool (y8 I q (congrArg not znm))
  |str j=>obtain⟨t',rfl⟩:=ry;exact PySem.EqMixed.ne_bool_str (y8 I q (by simp))
  |_=>exact absurd (show false=true from hs) Bool.false_ne_true
 |int i=>
  obtain⟨t,rfl⟩:=rx
  cases y with
  |non=>cases ry;exact PySem.EqNone.ne_int_none (y8 I q (by simp))
  |int j=>obtain⟨t',rfl⟩:=ry;exact ne_int (y8 I q (congrArg not zkj))
  |str j=>obtain⟨t',rfl⟩:=ry;exact PySem.EqMixed.ne_int_str (y8 I q (by simp))
  |_=>exact absurd (show false=true from hs) Bool.false_ne_true
 |str i=>
  obtain⟨t,rfl⟩:=rx
  cases y with
  |non=>cases ry;exact PySem.EqNone.ne_str_none (y8 I q (by simp))
  |bl j=>cases ry;exact PySem.EqMixed.ne_str_bool (y8 I q (by simp))
  |int j=>obtain⟨t',rfl⟩:=ry;exact PySem.EqMixed.ne_str_int (y8 I q (by simp))
  |str j=>obtain⟨t',rfl⟩:=ry;exact ne_str (y8 I q (congrArg not zkk))
  |_=>exact absurd (show false=true from hs) Bool.false_ne_true
 |byt i=>
  obtain⟨t,rfl⟩:=rx
  cases y with
  |byt j=>obtain⟨t',rfl⟩:=ry;exact PySem.W.ne_bytes (y8 I q (congrArg not zkl))
  |_=>exact absurd (show false=true from hs) Bool.false_ne_true
 |_=>cases y <;> exact absurd (show false=true from hs) Bool.false_ne_true
theorem zvk:OpR X (compareOp .Lt) (rI0 λi j=>.bl (decide (i<j))):=zp7 λ_ _ _ _ _ _ _ q=>lt_int q
theorem zvl:OpR X (compareOp .LtE) (rI0 λi j=>.bl (decide (i<=j))):=zp7 λ_ _ _ _ _ _ _ q=>le_int q
theorem zrx:OpR X (compareOp .Gt) (rI0 λi j=>.bl (decide (j<i))):=zp7 λ_ _ _ _ _ _ _ q=>gt_int q
theorem zvm:OpR X (compareOp .GtE) (rI0 λi j=>.bl (decide (j<=i))):=zp7 λ_ _ _ _ _ _ _ q=>ge_int q
theorem zs6:OpR X (compareOp .Is) (λx y H Q=>y=.non/\Q (.bl (decide (x=.non))) H):=by
 intro pins s σ H x y v u Q I rx ry h;obtain⟨rfl,q⟩:=h
 cases ry;refine is_none_gen (y8 I q ?_)
 cases x <;> first
  |(cases rx;rfl)
  |(obtain⟨t,rfl⟩:=rx;rfl)
theorem yd(b:Expr){op:CmpOp}(h:op ≠ .In:=by decide)(h2:op ≠ .NotIn:=by decide):behindInMarks op b=false:=by
 have e1:(op == CmpOp.In)=false:=by cases op <;> first|rfl|exact absurd rfl h
 have e2:(op == CmpOp.NotIn)=false:=by cases op <;> first|rfl|exact absurd rfl h2
 cases b <;> simp[behindInMarks,e1,e2]
def zvn(t:TE):TT:=λσ H Q=>t σ H λx H'=>∃k,x=.bl k/\Q k H'
theorem zkm{op:CmpOp}{r:R2}(ho:OpR X (compareOp op) r)(ha:PE X a ta)(hb:PE X b tb)(hm:behindInMarks op b=false):PT X (.Compare a [op] [b] pos) (zvn (tOp r ta tb)):=by
 intro pins s σ H Q I h;refine wpAny_isTrue_Compare1 (thn (ha pins s σ H _ I h) λv s1 ⟨x,H1,I1,r1,q1⟩=>thn (hb pins s1 σ H1 _ I1 q1) λu s2 ⟨y,H2,I2,r2,q2⟩=>
  thn (ho pins s2 σ H2 x y v u _ I2 r1 r2 q2) λc s3 ⟨z,H3,I3,r3,k,e,q3⟩=>?_) hm
 subst e
 cases r3;exact wpAny_truthy_bool ⟨H3,I3,q3⟩
def zs7(K:PySem.W.Frag)(x:V)(H:Hp)(k:Bool):Prop :=
 match x with
 |.non=>k=false
 |.bl b=>k=b
 |.int i=>k=(i != 0)
 |.str y=>y.length<=sizeLine/\k=((y.length:Int) != 0)
 |.byt y=>y.size<=sizeLine/\k=((y.size:Int) != 0)
 |.ref p=>(∃xs,SqL K H p xs/\k = !xs.isEmpty)\/(∃xs,SqT K H p xs/\k = !xs.isEmpty)\/∃kvs,H p=some (.dK kvs)/\k = !kvs.isEmpty
 |_=>False
theorem zi0{κ:Type}{kvs:List (κ×V)}{vs:List (κ×Value)}(r:KV kvs vs):(!vs.isEmpty) = !kvs.isEmpty:=by
 cases r <;> rfl
theorem zdu{xs:List V}{its:List Value}(r:Vals xs its):(!its.toArray.isEmpty) = !xs.isEmpty:=by
 cases r <;> simp
theorem za4:(sizeLine:Nat)<2 ^ 63:=by rw[sizeLine_eq];decide
theorem zs8:zw1 X (λx H Q=>∃k,zs7 X.K x H k/\Q k H):=by
 intro pins s σ H x v Q I rx h;obtain⟨k,e,q⟩:=h;have hl:=za4;have hs:sizeLine=16777216:=sizeLine_eq
 cases x with
 |non=>
  cases rx;have e':k=false:=e;subst e';exact truthy_none ⟨H,I,q⟩
 |bl b=>
  cases rx;have e':k=b:=e;subst e';exact wpAny_truthy_bool ⟨H,I,q⟩
 |int i=>
  obtain⟨t,rfl⟩:=rx;have e':k=(i != 0):=e;subst e';exact PySem.P.truthy_int ⟨H,I,q⟩
 |str y=>
  obtain⟨t,rfl⟩:=rx;obtain⟨hy,e'⟩:y.length<=sizeLine/\k=((y.length:Int) != 0):=e;subst e';exact PySem.P.truthy_str (by omega) ⟨H,I.tok _,q⟩
 |byt y=>
  obtain⟨t,rfl⟩:=rx;obtain⟨hy,e'⟩:y.size<=sizeLine/\k=((y.size:Int) != 0):=e;subst e';exact PySem.W.truthy_bytes (by omega) ⟨H,I.tok _,q⟩
 |ref p=>
  cases rx;have e':(∃xs,SqL X.K H p xs/\k = !xs.isEmpty)\/(∃xs,SqT X.K H p xs/\k = !xs.isEmpty)\/∃kvs,H p=some (.dK kvs)/\k = !kvs.isEmpty:=e;rcases e' with⟨xs,hx,e'⟩ |⟨xs,hx,e'⟩ |⟨kvs,hx,e'⟩
  ·subst e';obtain⟨its,r,pl,hz⟩:=I.list hx;have hlen:=r.length;exact wpAny_truthy_list pl.isList (by simp only[List.size_toArray];omega) ⟨H,I.tok _,by rw[zdu r];exact q⟩
  ·subst e';obtain⟨its,r,pl,hz⟩:=I.tuple hx;have hlen:=r.length;exact truthy_tuple pl (by simp only[List.size_toArray];omega) ⟨H,I.tok _,by rw[zdu r];exact q⟩
  ·subst e';obtain⟨hz,hS,vs,r,m⟩:kvs.length<=sizeLine/\(p == sysModules)=false/\∃vs,KV kvs vs/\s.heap.DictOf (zf7 X.prog X.w) p vs:=I.hok p _ hx;have hlen:kvs.length=vs.length:=Paired.length r;exact wpAny_truthy_dict hS m (by omega) ⟨H,I.tok _,by rw[zi0 r];exact q⟩
 |_=>exact(show False from e).elim
theorem znn(ha:PE X a ta)(he:∀whole,isTrue a X.env whole=(do let v <-whole;standAt a.pos;holding [v] (truthy v))):
  PT X a (λσ H Q=>ta σ H λx H'=>∃k,zs7 X.K x H' k/\Q k H'):=by
 intro pins s σ H Q I h;exact isTrue_plain (thn (ha pins s σ H _ I h) λv s1 ⟨x,H1,I1,r1,q1⟩=>zs8 pins s1 σ H1 x v Q I1 r1 q1) (he _)
theorem zi1:OpR X (binaryOp .Add) (λx y H Q=>∃i j,x=.str i/\y=.str j/\i.length+j.length<=sizeLine/\Q (.str (i++j)) H):=by
 intro pins s σ H x y v u Q I rx ry h;obtain⟨i,j,rfl,rfl,hz,q⟩:=h;obtain⟨t,rfl⟩:=rx;obtain⟨t',rfl⟩:=ry;exact add_str (λt' tk=>⟨.str (i++j),H,I.tok _,⟨_,rfl⟩,q⟩) hz
theorem zhe{x:V}{us:List Value}(r:Vals [x] us):∃u,us = [u]/\RelV x u:=by
 cases r with
 |cons r1 r2=>cases r2;exact⟨_,rfl,r1⟩
theorem zry{x y:V}{us:List Value}(r:Vals [x,y] us):∃u w',us = [u,w']/\RelV x u/\RelV y w':=by
 cases r with
 |cons r1 r2=>
  cases r2 with
  |cons r3 r4=>cases r4;exact⟨_,_,rfl,r1,r3⟩
theorem zl6(hc:X.calm=true):qu X (.builtin "max") (λxs H Q=>∃i j,xs = [.int i,.int j]/\Q (.int (if j > i then j else i)) H):=by
 intro pins s σ H xs us Q I r h;obtain⟨i,j,rfl,q⟩:=h;obtain⟨u,w',rfl,⟨t,rfl⟩,⟨t',rfl⟩⟩:=zry r;refine max_two_ints (I.ok.hd hc) λh' tk k=>⟨_,H,I.kept k,?_,q⟩
 by_cases hj:j > i
 ·rw[if_pos hj,if_pos hj];exact⟨_,rfl⟩
 ·rw[if_neg hj,if_neg hj];exact⟨_,rfl⟩
theorem zl7(hc:X.calm=true):qu X (.builtin "min") (λxs H Q=>∃i j,xs = [.int i,.int j]/\Q (.int (if j<i then j else i)) H):=by
 intro pins s σ H xs us Q I r h;obtain⟨i,j,rfl,q⟩:=h;obtain⟨u,w',rfl,⟨t,rfl⟩,⟨t',rfl⟩⟩:=zry r;refine min_two_ints (I.ok.hd hc) λh' tk k=>⟨_,H,I.kept k,?_,q⟩
 by_cases hj:j<i
 ·rw[if_pos hj,if_pos hj];exact⟨_,rfl⟩
 ·rw[if_neg hj,if_neg hj];exact⟨_,rfl⟩
theorem zl8:qu X (.type "int") (λxs H Q=>(∃i,xs = [.int i]/\Q (.int i) H)\/∃k,xs = [.bl k]/\Q (.int (if k then 1 else 0)) H):=by
 intro pins s σ H xs us Q I r h;rcases h with⟨i,rfl,q⟩ |⟨k,rfl,q⟩
 ·obtain⟨u,rfl,t,rfl⟩:=zhe r;exact call_int_int ⟨.int i,H,I,⟨_,rfl⟩,q⟩
 ·obtain⟨u,rfl,r1⟩:=zhe r
  cases r1;exact call_int_bool ⟨.int (if k then 1 else 0),H,I.tok _,⟨_,rfl⟩,q⟩
def zw2(K:PySem.W.Frag)(x:V)(H:Hp)(n:Nat):Prop :=
 match x with
 |.str y=>y.length<=sizeLine/\n=y.length
 |.byt y=>y.size<=sizeLine/\n=y.size
 |.ref p=>(∃xs,SqL K H p xs/\n=xs.length)\/∃xs,SqT K H p xs/\n=xs.length
 |_=>False
theorem zno:qu X (.builtin "len") (λxs H Q=>∃x n,xs = [x]/\zw2 X.K x H n/\Q (.int n) H):=by
 intro pins s σ H xs us Q I r h;obtain⟨x,n,rfl,e,q⟩:=h;obtain⟨u,rfl,rx⟩:=zhe r;have hl:=za4;have hs:sizeLine=16777216:=sizeLine_eq
 cases x with
 |str y=>
  obtain⟨t,rfl⟩:=rx;obtain⟨hy,e'⟩:y.length<=sizeLine/\n=y.length:=e;subst e';exact len_str (by omega) ⟨.int _,H,I.tok _,⟨_,rfl⟩,q⟩
 |byt y=>
  obtain⟨t,rfl⟩:=rx;obtain⟨hy,e'⟩:y.size<=sizeLine/\n=y.size:=e;subst e';exact PySem.W.len_bytes (by omega) ⟨.int _,H,I.tok _,⟨_,rfl⟩,q⟩
 |ref p=>
  cases rx;have e':(∃xs,SqL X.K H p xs/\n=xs.length)\/∃xs,SqT X.K H p xs/\n=xs.length:=e;rcases e' with⟨xs,hx,e'⟩ |⟨xs,hx,e'⟩
  ·subst e';obtain⟨its,r',pl,hz⟩:=I.list hx;have hlen:=r'.length;exact Calls.call_len_list pl.isList (by simp only[List.size_toArray];omega) ⟨.int xs.length,H,I.tok _,⟨_,by simp only[List.size_toArray];rw[hlen]⟩,q⟩
  ·subst e';obtain⟨its,r',pl,hz⟩:=I.tuple hx;have hlen:=r'.length;exact len_tuple pl (by simp only[List.size_toArray];omega) ⟨.int xs.length,H,I.tok _,⟨_,by simp only[List.size_toArray];rw[hlen]⟩,q⟩
 |_=>exact(show False from e).elim
end
structure Room(k:Nat)(A:Around):Prop where
 hd:A.handled=none
 dp:A.depth+3 * k+5<recursionLimit
 un:A.units+16 * k+200<cLine
 gd:A.guards=some []
theorem Room.mono{j k:Nat}{A:Around}(r:Room k A)(h:j<=k):Room j A:=⟨r.hd,by have:=r.dp;omega,by have:=r.un;omega,r.gd⟩
theorem Room.deeper{k:Nat}{A:Around}(r:Room (k+1) A)(env:Env):Room k (A.deeper env) :=
 ⟨r.hd,by have:=r.dp;show A.depth+1+3 * k+5<_;omega,by have:=r.un;show A.units+3+16 * k+200<_;omega,r.gd⟩
theorem Room.in1{k:Nat}{A:Around}(r:Room (k+1) A):Room k A.in1 :=
 ⟨r.hd,by have:=r.dp;show A.depth+3 * k+5<_;omega,by have:=r.un;show A.units+1+16 * k+200<_;omega,r.gd⟩
theorem Room.depth{k:Nat}{A:Around}(r:Room k A):A.depth<recursionLimit:=by have:=r.dp;omega
theorem Room.units{k:Nat}{A:Around}(r:Room k A):A.units+64<cLine:=by have:=r.un;omega
def zw3:TA:=λ_ H Q=>Q [] H
def zvo(ta:TE)(tr:TA):TA:=λσ H Q=>ta σ H λx H1=>tr σ H1 λxs H2=>Q (x::xs) H2
section
variable {X:Cx}{e:Expr}{es:List Expr}{te:TE}{t:TA}{pos:Pos}
theorem vz:PA X [] zw3:=λ_ _ _ _ H Q I h=>Calls.spliced_nil ⟨[],H,I,.nil,h⟩
theorem xv(ha:PE X e te)(hr:PA X es t)(hs:starEach (e::es) X.env=(false,eval e X.env)::starEach es X.env:=by rfl):PA X (e::es) (zvo te t):=by
 intro pos pins s σ H Q I h;rw[hs];show wpAny _ _ (spliced ((false,eval e X.env)::backTo pos (starEach es X.env))) _ _ s;refine Calls.spliced_cons (thn (ha pins s σ H _ I h) λu s1 ⟨x,H1,I1,r1,q1⟩=>?_);exact thn (hr pos pins s1 σ H1 _ I1 q1) λus s2 ⟨xs,H2,I2,r2,q2⟩=>⟨x::xs,H2,I2,.cons r1 r2,q2⟩
def zw4(t:TA):TE:=λσ H Q=>t σ H λxs H1=>xs.length<=sizeLine/\∀p,H1 p=none->Q (.ref p) (upd H1 p (.tup xs))
def zw5(t:TA):TE:=λσ H Q=>t σ H λxs H1=>xs.length<=sizeLine/\∀p,H1 p=none->Q (.ref p) (upd H1 p (.lst xs))
theorem zs9{x1}(h:PA X es t):PE X (.Tuple es x1 pos) (zw4 t):=by
 intro pins s σ H Q I hq;refine wpAny_Tuple_spliced (thn (h pos pins s σ H _ I hq) λus s1 ⟨xs,H1,I1,r,z,q⟩=>⟨by rw[<-r.length];exact z,?_⟩);have hf:H1 s1.heap.objs.size=none:=I1.hok.fresh (Nat.le_refl _);refine⟨.ref s1.heap.objs.size,upd H1 s1.heap.objs.size (.tup xs),I1.laid (t':=s1.toks) (λb u e=>Heap.get?_push_of_some _ e) (Nat.le_refl _) ?_,rfl,q _ hf⟩;exact⟨z,us,r,⟨_,Heap.get?_push_size _ rfl,rfl,⟨_,rfl⟩,rfl⟩⟩
theorem zi2(h:PA X es t):PE X (.List es pos) (zw5 t):=by
 intro pins s σ H Q I hq;refine wpAny_List_spliced (thn (h pos pins s σ H _ I hq) λus s1 ⟨xs,H1,I1,r,z,q⟩=>⟨by rw[<-r.length];exact z,?_⟩);have hf:H1 s1.heap.objs.size=none:=I1.hok.fresh (Nat.le_refl _);refine⟨.ref s1.heap.objs.size,upd H1 s1.heap.objs.size (.lst xs),I1.laid (t':=s1.toks) (λb u e=>Heap.get?_push_of_some _ e) (Nat.le_refl _) ?_,rfl,q _ hf⟩;exact⟨z,us,0,r,Heap.get?_push_size _ rfl⟩
end
abbrev Sp:=List V->Hp->VK->XK->Prop
abbrev CXT:=List Env->Hp->Shared->XK->Value->Shared->Prop
structure Env0(P:Program)(w:World)(K:PySem.W.Frag)(mg:Str->Option Value)(base:Heap)(A:Around)(outer:List Env)(s:Shared)(H:Hp):Prop where
 frames:A.frames=some outer
 mod:Mod K mg base
 bs:∀b o,base.get? b=some o->s.heap.get? b=some o/\H b=none
 bsz:base.objs.size<=s.heap.objs.size
 funs:s.heap.FunFrames base outer
 frf:∀b∈frs outer,H b=none
 hok:HOk P w H s.heap
 bare:AllBare s.gens
def CE(outer:List Env)(P:Program)(w:World)(H:Hp)(s:Shared)(Q:VK)(u:Value)(s':Shared):Prop :=
 ∃v H',s'.os=s.os/\AllBare s'.gens/\Un (frs outer) [] H H' s.heap s'.heap/\HOk P w H' s'.heap/\RelV v u/\Q v H'
def CR(CX:CXT)(outer:List Env)(P:Program)(w:World)(H:Hp)(s:Shared)(Q:VK)(E:XK)(r:Result)(s':Shared):Prop :=
 match r with
 |.ok (.ret u)=>CE outer P w H s Q u s'
 |.ok _=>False
 |.error e=>CX outer H s E e s'
structure FnOk(P:Program)(w:World)(K:PySem.W.Frag)(mg:Str->Option Value)(base:Heap)(CX:CXT)(k:Nat)(f:Addr)(fd:FuncData)(ps:List Str)(sp:Sp):Prop where
 len:∀vs H Q E,sp vs H Q E->vs.length=ps.length
 run:∀(A:Around) (outer:List Env) (s:Shared) (H:Hp) (args:Args) (us:List Value) (vs:List V) (Q:VK) (E:XK),Room k A->Env0 P w K mg base A outer s H->BindsTo s fd args (ps.zip us)->Vals vs us->sp vs H Q E ->
  codeAny (model P w) A (.call (.ref f) args) (CR CX outer P w H s Q E) s
theorem FnOk.imp{P:Program}{w:World}{K:PySem.W.Frag}{mg:Str->Option Value}{base:Heap}{CX:CXT}{k:Nat}{f:Addr}{fd:FuncData}{ps:List Str}{sp sp':Sp}(F:FnOk P w K mg base CX k f fd ps sp)
  (h:∀vs H Q E,sp' vs H Q E->sp vs H Q E):FnOk P w K mg base CX k f fd ps sp' :=
 ⟨λvs H Q E q=>F.len vs H Q E (h _ _ _ _ q),λA outer s H args us vs Q E hr he hb hv hs=>F.run A outer s H args us vs Q E hr he hb hv (h _ _ _ _ hs)⟩
theorem Env0.in1{P:Program}{w:World}{K:PySem.W.Frag}{mg:Str->Option Value}{base:Heap}{A:Around}{outer:List Env}{s:Shared}{H:Hp}(e:Env0 P w K mg base A outer s H):
  Env0 P w K mg base A.in1 outer s H:=⟨e.frames,e.mod,e.bs,e.bsz,e.funs,e.frf,e.hok,e.bare⟩
section
variable {X:Cx}{pins:List (Addr×Obj)}{σ:St}{H:Hp}{s s':Shared}
theorem Inv.env0(I:Inv X pins σ H s):Env0 X.prog X.w X.K X.mg X.base X.A X.stack s H :=
 ⟨I.ok.frames,I.ok.mod,I.bs,Nat.le_trans I.ok.bsz I.sz,I.stack,I.stkFree,I.hok,I.bare⟩
theorem Inv.after{Q:VK}{u:Value}(I:Inv X pins σ H s)(h:CE X.stack X.prog X.w H s Q u s'):EP X pins σ Q u s':=by
 obtain⟨v,H',os,bare,un,hok,r,q⟩:=h;obtain⟨hh,g,d,t,os'⟩:=s';obtain rfl:os'=s.os:=os;exact⟨v,H',I.call (h':=hh) (g':=g) (d':=d) (t':=t) (ch:=[]) un hok bare (λb z=>absurd z (by simp)),r,q⟩
end
def znp(sp:Sp)(dvs:List V)(E:XK)(t:TA):TE:=λσ H Q=>t σ H λvs H1=>sp (vs++dvs) H1 Q E
def Binds(K:PySem.W.Frag)(fd:FuncData)(ps:List Str)(ds:List Value):Prop :=
 ∀(s:Shared) (us:List Value),K.In s.heap->(us++ds).length=ps.length->BindsTo s fd ⟨us,[]⟩ (ps.zip (us++ds))
theorem Binds.all{K:PySem.W.Frag}{fd:FuncData}{ps:List Str}(h:∀us:List Value,us.length=ps.length->bindArgs fd ⟨us,[]⟩=pure (ps.zip us)):Binds K fd ps []:=λs us _ hl=>by
 rw[List.append_nil]at hl ⊢;exact .of_eq (h us hl)
def zi3(CX:CXT)(X:Cx)(E:XK):Prop:=∀(pins:List (Addr×Obj)) (σ:St) (H:Hp) (s:Shared) (e:Value) (s':Shared),Inv X pins σ H s->CX X.stack H s E e s'->X.xe e s'
section
variable {X:Cx}{CX:CXT}{k:Nat}{f C:Addr}{fd:FuncData}{ps:List Str}{sp:Sp}{dvs:List V}{ds:List Value}{E:XK}{x m:Str}{p pos apos:Pos}{e o:Expr}{es:List Expr}{ta:TE}{t:TA}
theorem znq{pins:List (Addr×Obj)}{σ:St}{H:Hp}{s:Shared}{Q:VK}{us:List Value}{vs:List V}(F:FnOk X.prog X.w X.K X.mg X.base CX k f fd ps sp)(hr:Room k X.A)(hb:Binds X.K fd ps ds)(hd:Vals dvs ds)(hx:zi3 CX X E)
  (I:Inv X pins σ H s) (r:Vals vs us) (h:sp (vs++dvs) H Q E):wpAny (model X.prog X.w) X.A (call (.ref f) us) (EP X pins σ Q) X.xe s:=by
 have r2:Vals (vs++dvs) (us++ds):=r.append hd;have hl:(us++ds).length=ps.length:=by rw[<-r2.length];exact F.len _ _ _ _ h
 refine wpAny_call (codeAny_mono (F.run X.A X.stack s H ⟨us,[]⟩ (us++ds) (vs++dvs) Q E hr I.env0 (hb s us I.kIn hl) r2 h) λr s' hq=>?_)
 cases r with
 |error e=>exact hx pins σ H s e s' I hq
 |ok fl=>
  cases fl with
  |ret u=>exact I.after hq
  |next=>exact False.elim hq
  |brk=>exact False.elim hq
  |cont=>exact False.elim hq
theorem zp9(F:FnOk X.prog X.w X.K X.mg X.base CX k f fd ps sp)(hr:Room k X.A)(hg:Gl X x)(hm:X.mg x=some (.ref f))(hk:PySem.W.keepIn X.K (.ref f)=true)(hb:Binds X.K fd ps ds)(hd:Vals dvs ds)(hx:zi3 CX X E)
  (ha:PA X (e::es) t) (hdb:(x ==("__debug__" : Str))=false:=by decide) (he:starEach (e::es) X.env=(false,eval e X.env)::starEach es X.env:=by rfl) (hpl:(backTo pos (starEach es X.env)).any (·.1)=false:=by rfl) :
  PE X (.Call (.Name x p) (e::es) [] pos) (znp sp dvs E t):=by
 intro pins s σ H Q I h;refine wpAny_Call_Name_kw (zf8 I hg hm ?_ hdb);refine PySem.W.callWith_K (h₀:=X.base) I.ok.mod.kin hk (thn (ha pos pins s σ H _ I h) λus s1 ⟨vs,H1,I1,r,q⟩=>⟨I1.kIn,?_⟩) he hpl;exact znq F hr hb hd hx I1 r q
end
structure yb(N P:List Str)(sc:Scope):Prop where
 kind:sc.kind=.function
 co:sc.isCoroutine=false
 gen:sc.isGenerator=false
 nd:N.Nodup
 pre:N.take P.length=P
 par:∀x∈P,sc.names.lookup x=some .local\/sc.names.lookup x=some .cell
 nofree:∀y∈sc.names,y.2 ≠ .free
theorem zfi{kindOf:Str->Option NameKind}{x:Str}:∀{binds:List (Str×Value)}{m:Str->Option Value},(∀v,(x,v)∉binds)->bindL kindOf binds m x=m x
 |[],_,_=>rfl
 |(n,v)::r,m,h=>by
  unfold bindL;rw[zfi λw hw=>h w (List.mem_cons_of_mem _ hw)]
  split
  ·have:x≠n:=by rintro rfl;exact h v List.mem_cons_self
   simp[this]
  ·rfl
theorem zfj{kindOf:Str->Option NameKind}{x:Str}:∀{binds:List (Str×Value)}{m:Str->Option Value},(∀v,(x,v)∉binds)->bindC kindOf binds m x=m x
 |[],_,_=>rfl
 |(n,v)::r,m,h=>by
  unfold bindC;rw[zfj λw hw=>h w (List.mem_cons_of_mem _ hw)]
  split
  ·rfl
  ·have:x≠n:=by rintro rfl;exact h v List.mem_cons_self
   simp[this]
theorem zfk{kindOf:Str->Option NameKind}{x:Str}{v:Value}:∀{P:List Str}{vs:List Value}{i:Nat}{m:Str->Option Value},P.Nodup->P[i]?=some x->vs[i]?=some v->kindOf x=some .local ->
  bindL kindOf (P.zip vs) m x=some v
 |[],_,_,_,_,h,_,_=>by simp at h
 |_::_,[],_,_,_,_,h,_=>by simp at h
 |p::P,w::vs,0,m,nd,h1,h2,hk=>by
  simp at h1 h2;subst h1;subst h2;show bindL kindOf ((p,w)::P.zip vs) m p=_;unfold bindL;rw[zfi λv hv=>(List.nodup_cons.mp nd).1 (List.of_mem_zip hv).1,if_pos hk];simp
 |p::P,w::vs,i+1,m,nd,h1,h2,hk=>by
  show bindL kindOf ((p,w)::P.zip vs) m x=_;unfold bindL;exact zfk (i:=i) (List.nodup_cons.mp nd).2 (by simpa using h1) (by simpa using h2) hk
theorem zfl{kindOf:Str->Option NameKind}{x:Str}{v:Value}:∀{P:List Str}{vs:List Value}{i:Nat}{m:Str->Option Value},P.Nodup->P[i]?=some x->vs[i]?=some v->kindOf x≠some .local ->
  bindC kindOf (P.zip vs) m x=some v
 |[],_,_,_,_,h,_,_=>by simp at h
 |_::_,[],_,_,_,_,h,_=>by simp at h
 |p::P,w::vs,0,m,nd,h1,h2,hk=>by
  simp at h1 h2;subst h1;subst h2;show bindC kindOf ((p,w)::P.zip vs) m p=_;unfold bindC;rw[zfj λv hv=>(List.nodup_cons.mp nd).1 (List.of_mem_zip hv).1,if_neg hk];simp
 |p::P,w::vs,i+1,m,nd,h1,h2,hk=>by
  show bindC kindOf ((p,w)::P.zip vs) m x=_;unfold bindC;exact zfl (i:=i) (List.nodup_cons.mp nd).2 (by simpa using h1) (by simpa using h2) hk
def start(N:List Str)(vs:List V):St:=vs.map some++List.replicate (N.length-vs.length) none
def zgc(CX:CXT)(P:Program)(w:World)(K:PySem.W.Frag)(mg:Str->Option Value)(base:Heap)(N:List Str)(qual:Str)(scope:Scope)(f:Addr)(cd:Value)(A:Around)(outer:List Env)(s:Shared)(H:Hp)(E:XK):Cx where
 prog:=P
 w:=w
 K:=K
 mg:=mg
 base:=base
 A:=A.deeper (envOfC qual scope s.heap.objs.size f cd)
 N:=N
 s₀:=s
 H₀:=H
 env:=envOfC qual scope s.heap.objs.size f cd
 outer:=outer
 stack:=envOfC qual scope s.heap.objs.size f cd::outer
 ex:=[]
 calm:=true
 fn:=λ_=>true
 pn:=[]
 xe:=λe s'=>wpAny (model P w) (A.deeper (envOfC qual scope s.heap.objs.size f cd)) (leaving (envOfC qual scope s.heap.objs.size f cd) e) (λ_ s''=>CX outer H s E e s'') (λe' s''=>CX outer H s E e' s'') s'
theorem zhf{sc:Scope}{n:Nat}{x:Str}(h:sc.names.lookup x=some .cell):∃c,(cellsFrom n sc.names []).lookup x=some c:=by
 have q:=PySem.W.cellsFrom_some sc.names n [] (.inl h);exact Option.isSome_iff_exists.mp q
theorem zl9{CX:CXT}{P:Program}{w:World}{K:PySem.W.Frag}{mg:Str->Option Value}{base:Heap}{N ps:List Str}{qual:Str}{scope:Scope}{f:Addr}{cd:Value}{A:Around}{outer:List Env}{s s1:Shared}{H:Hp}{E:XK}{us:List Value}{vs:List V}
  (S:yb N ps scope) (hd:A.handled=none) (e0:Env0 P w K mg base A outer s H) (hl:vs.length=ps.length) (r:Vals vs us)
  (x:InCallC s s.heap.objs.size (bindL (envOfC qual scope s.heap.objs.size f cd).kindOf (ps.zip us) λ_=>none) (cellsFrom (s.heap.objs.size+1) scope.names []) (bindC (envOfC qual scope s.heap.objs.size f cd).kindOf (ps.zip us) λ_=>none) s1) :
  Inv (zgc CX P w K mg base N qual scope f cd A outer s H E) [] (start N vs) H s1:=by
 have hpl:ps.length<=N.length:=by have:=congrArg List.length S.pre;rw[List.length_take]at this;omega
 obtain⟨h1,tk,rfl,hk⟩:=x.done;have noA:∀b:Addr,b∉(zgc CX P w K mg base N qual scope f cd A outer s H E).ex:=λb z=>absurd (show b∈([]:List Addr) from z) (by simp);refine⟨⟨e0.mod,S.kind,rfl,rfl,Nat.le_refl _,λy z c h1 h2=>?_,λy hy=>?_,λy c _ h=>?_,λ_=>hd,Around.frames_deeper e0.frames,.inr ⟨rfl,rfl⟩,λb z=>absurd z (noA b),e0.bs,e0.bsz,λb _ _=>noA b,λb z=>absurd z (noA b),e0.funs,e0.frf⟩,
  rfl,e0.bare,Un.kept hk,⟨_,x.toInCall.ns,λi y v h1 h2 h3=>?_⟩,λy c h=>⟨_,x.cell y c h⟩,e0.hok.fresh (Nat.le_refl _),λy c h=>?_,λp hp=>absurd (show p∈([]:List (Addr×Obj)) from hp) (by simp),e0.hok.kept hk,?_⟩
 ·exact name_of_addr x.apart (PySem.mem_of_lookup h1) (PySem.mem_of_lookup h2)
 ·have hy:scope.names.lookup y=some .cell\/scope.names.lookup y=some .free:=hy;rcases hy with hy|hy
  ·exact zhf hy
  ·exact absurd rfl (S.nofree _ (PySem.mem_of_lookup hy))
 ·exact Nat.le_of_lt (x.above y c (PySem.mem_of_lookup h))
 ·have hi:i<vs.length:=by
   unfold start at h2
   by_cases hi:i<vs.length
   ·exact hi
   ·rw[List.getElem?_append_right (by simpa using hi)]at h2;rw[List.getElem?_replicate]at h2
    split at h2 <;> cases h2
  have ha:vs[i]?=some v:=by
   unfold start at h2;rw[List.getElem?_append_left (by simpa using hi),List.getElem?_map]at h2
   cases e:vs[i]? with
   |none=>rw[e]at h2;cases h2
   |some a=>rw[e]at h2;cases h2;rfl
  obtain⟨u,hu,rv⟩:=r.get ha;have hp:ps[i]?=some y:=by
   rw[<-S.pre,List.getElem?_take_of_lt (by omega)];exact h1
  have ndP:ps.Nodup:=by rw[<-S.pre];exact S.nd.sublist (List.take_sublist _ _)
  refine⟨u,rv,?_⟩;rcases S.par y (List.mem_of_getElem? hp) with k|k
  ·exact .inl ⟨k,zfk ndP hp hu k⟩
  ·obtain⟨c,e⟩:=zhf (n:=s.heap.objs.size+1) k;refine .inr ⟨.inl k,c,e,?_⟩;have q:=x.cell y c e;rw[zfl ndP hp hu (by show scope.names.lookup y≠_;rw[k];decide)]at q;exact q
 ·exact e0.hok.fresh (Nat.le_of_lt (x.above y c (PySem.mem_of_lookup h)))
 ·unfold start;show _=N.length;rw[List.length_append,List.length_map,List.length_replicate];omega
theorem zrz{CX:CXT}{P:Program}{w:World}{K:PySem.W.Frag}{mg:Str->Option Value}{base:Heap}{k:Nat}{f:Addr}{name qual:Str}{params:Arguments}{body:List Stmt}{scope:Scope}{dV kV doc pm cdv ct oc:Value}{an od:Option Addr}
  {osl:Array (Option Value)}{N ps:List Str}{sp:Sp} (lk:K.lookup f=some ⟨oc,od,.func (PySem.W.fnOf name qual params body scope dV kV doc pm an cdv ct),osl⟩) (hcd:PySem.W.codeIn K cdv qual=true) (S:yb N ps scope)
  (len:∀vs H Q E,sp vs H Q E->vs.length=ps.length)
  (hbody:∀(A:Around) (outer:List Env) (s:Shared) (H:Hp) (vs:List V) (Q:VK) (E:XK),Room k (A.deeper (envOfC qual scope s.heap.objs.size f cdv))->sp vs H Q E ->
   ∃t,PSs (zgc CX P w K mg base N qual scope f cdv A outer s H E) body t/\t { nx:=λ_ H'=>Q .non H',rt:=Q } (start N vs) H) :
  FnOk P w K mg base CX (k+1) f (PySem.W.fnOf name qual params body scope dV kV doc pm an cdv ct) ps sp:=by
 refine⟨len,λA outer s H args us vs Q E hr e0 hb r hsp=>?_⟩;have hl:=len _ _ _ _ hsp;have KX:K.In s.heap:=e0.mod.kin.keeps λb o e=>(e0.bs b o e).1;have lim:s.heap.NoLimit:=e0.mod.nolimit.keeps λb o e=>(e0.bs b o e).1;have hkind:∀y∈ps.zip us,scope.names.lookup y.1=some .local\/(scope.names.lookup y.1=some .cell/\((cellsFrom (s.heap.objs.size+1) scope.names []).lookup y.1).isSome=true):=λ⟨n,v⟩ hy=>by
  rcases S.par n (List.of_mem_zip hy).1 with q|q
  ·exact .inl q
  ·exact .inr ⟨q,PySem.W.cellsFrom_some _ _ _ (.inl q)⟩
 refine codeAny_call_function hr.depth (KX _ _ lk) rfl S.co S.gen rfl (PySem.W.codeRec_of KX hcd) (hb _ _ _ _ ?_);refine wpAny_newFunctionEnv_cells S.kind hkind λenv he s1 x=>?_;subst he;refine⟨lim.keeps x.toInCall.keep,codeAny_func ?_⟩;obtain⟨t,ht,hq⟩:=hbody A outer s H vs Q E (hr.deeper _) hsp;have I:Inv (zgc CX P w K mg base N qual scope f cdv A outer s H E) [] (start N vs) H s1:=zl9 S hr.hd e0 hl r x;refine wpAny_mono (ht [] s1 (start N vs) H _ I hq) (λfl s' hs=>?_) λe s' hs=>hs;have fin:∀{σ':St}{H':Hp}{v:V}{u:Value},Inv (zgc CX P w K mg base N qual scope f cdv A outer s H E) [] σ' H' s'->RelV v u->Q v H'->CE outer P w H s Q u s' :=
  λ{σ' H' v u} J rv q=>⟨v,H',J.os,J.bare,J.base,J.hok,rv,q⟩
 cases fl with
 |ret u=>
  obtain⟨v,σ',H',J,rv,q⟩:=hs;exact fin J rv q
 |next=>
  obtain⟨σ',H',J,q⟩:=hs;exact fin (v:=V.non) (u:=Value.none) J rfl q
 |brk=>
  obtain⟨_,_,_,q⟩:=hs;exact False.elim q
 |cont=>
  obtain⟨_,_,_,q⟩:=hs;exact False.elim q
section
variable {X:Cx}{x:Str}{p pos:Pos}{e:Expr}{es:List Expr}{t:TA}{id T:String}{r:List V->Hp->VK->Prop}
def tCB(r:List V->Hp->VK->Prop)(t:TA):TE:=λσ H Q=>t σ H λvs H1=>r vs H1 Q
theorem j5(hc:qu X (.builtin id) r)(hg:Gl X x)(hm:X.mg x=none)(hv:bootBuiltins x=some (.builtin id))(ha:PA X (e::es) t)(hn:x ≠ "__name__" := by decide)(hdb:(x ==("__debug__" : Str))=false:=by decide)
  (he:starEach (e::es) X.env=(false,eval e X.env)::starEach es X.env:=by rfl) (hpl:(backTo pos (starEach es X.env)).any (·.1)=false:=by rfl):PE X (.Call (.Name x p) (e::es) [] pos) (tCB r t):=by
 intro pins s σ H Q I h;refine wpAny_Call_Name_kw (kx I hg hm hv ?_ hn hdb);exact PyProof.Rows.callWith_builtin1 (thn (ha pos pins s σ H _ I h) λus s1 ⟨vs,H1,I1,r1,q1⟩=>hc pins s1 σ H1 vs us Q I1 r1 q1) he hpl
theorem zma(hc:qu X (.type T) r)(hg:Gl X x)(hm:X.mg x=none)(hv:bootBuiltins x=some (.type T))(ha:PA X (e::es) t)(hn:x ≠ "__name__" := by decide)(hdb:(x ==("__debug__" : Str))=false:=by decide)
  (he:starEach (e::es) X.env=(false,eval e X.env)::starEach es X.env:=by rfl) (hpl:(backTo pos (starEach es X.env)).any (·.1)=false:=by rfl):PE X (.Call (.Name x p) (e::es) [] pos) (tCB r t):=by
 intro pins s σ H Q I h;refine wpAny_Call_Name_kw (kx I hg hm hv ?_ hn hdb);exact PyProof.Rows.callWith_type1 (thn (ha pos pins s σ H _ I h) λus s1 ⟨vs,H1,I1,r1,q1⟩=>hc pins s1 σ H1 vs us Q I1 r1 q1) he hpl
end
end L2
namespace HT
open PySem PyProof.Rows
section
variable {prog:Program}{w:World}{A:Around}{E:Value->Shared->Prop}{s:Shared}
theorem cat_tup{t b:Addr}{vs ws:List Value}{Q:Value->Shared->Prop}(ht:IsTup s.heap t vs.toArray)(hb:IsTup s.heap b ws.toArray)(hv:vs ≠ [])
  (h1:ws = []->Q (.ref t) s) (h2:ws ≠ []->Q (.ref s.heap.objs.size) { s with heap:=s.heap.push { cls:=.type "tuple",data:=.seq (vs++ws).toArray } })
  (hsz:vs.length+ws.length<=sizeLine):wpAny (model prog w) A (binaryOp .Add (.ref t) (.ref b)) Q E s:=by
 obtain⟨⟨cls,dd,data,sl⟩,ho,hc,n,hd⟩:=id ht;obtain⟨⟨cls2,dd2,data2,sl2⟩,ho2,hc2,n2,hd2⟩:=id hb;simp only at hc hd hc2 hd2;subst hc hd hc2 hd2;have e:vs.toArray++ws.toArray=(vs++ws).toArray:=by simp
 by_cases hw:ws = []
 ·exact concat_meets ⟨_,ho,rfl⟩ ⟨_,ho2,rfl⟩ noFill_tuple_add seq_tuple_add PySem.F.slot_tuple_add PySem.F.entry_tuple_add (PySem.F.args_tuple_add_2 _ _)
   (tuple_addW1 t b vs.toArray ws.toArray n n2 dd dd2 sl sl2 (by simpa using hv) (by simp[hw])) ⟨ho,ho2,h1 hw⟩
 ·refine concat_meets ⟨_,ho,rfl⟩ ⟨_,ho2,rfl⟩ noFill_tuple_add seq_tuple_add PySem.F.slot_tuple_add PySem.F.entry_tuple_add (PySem.F.args_tuple_add_2 _ _)
   (tuple_addW2 t b vs.toArray ws.toArray n n2 dd dd2 sl sl2 (by simpa using hv) (by simpa using hw) (by rw[List.size_toArray,List.size_toArray];exact hsz)) ⟨ho,ho2,?_⟩
  rw[e];exact h2 hw
def sIx(n d:Nat):Option Int->Nat
 |none=>d
 |some v=>if v<0 then (v+(n:Int)).toNat else min v.toNat n
theorem sIx_none(n d:Nat):sIx n d none=d:=rfl
theorem sIx_nat(n d k:Nat):sIx n d (some (k:Int))=min k n:=by
 show(if (k:Int)<0 then ((k:Int)+(n:Int)).toNat else min (k:Int).toNat n)=min k n;rw[if_neg (by omega),Int.toNat_natCast]
theorem zta(n d:Nat)(hd:d<=n)(o:Option Int):sIx n d o<=n:=by
 cases o with
 |none=>exact hd
 |some v=>
  show(if v<0 then (v+(n:Int)).toNat else min v.toNat n)<=n
  by_cases hv:v<0
  ·rw[if_pos hv];omega
  ·rw[if_neg hv];exact Nat.min_le_right _ _
theorem zkn(v:Int)(n d:Nat):(if v<0 then max (v+(n:Int)) 0 else min v (n:Int))=((sIx n d (some v):Nat):Int):=by
 show(if v<0 then max (v+(n:Int)) 0 else min v (n:Int))=(((if v<0 then (v+(n:Int)).toNat else min v.toNat n):Nat):Int)
 by_cases hv:v<0
 ·simp only[if_pos hv];omega
 ·simp only[if_neg hv];omega
theorem zi4(lo hi:Option Int)(n:Nat):Builtin.Slice.sliceAdjust lo hi 1 (n:Int)=(((sIx n 0 lo:Nat):Int),((sIx n n hi:Nat):Int)):=by
 have h1:¬ ((1:Int)<0):=by omega
 unfold Builtin.Slice.sliceAdjust;simp only[h1,if_false];refine Prod.ext ?_ ?_
 ·cases lo with
  |none=>rfl
  |some v=>exact zkn v n 0
 ·cases hi with
  |none=>rfl
  |some v=>exact zkn v n n
theorem zi5(i j:Nat):Builtin.Slice.slicePlaces (i:Int) (j:Int) 1=j-i:=by
 unfold Builtin.Slice.slicePlaces;have h1:(1:Int) > 0:=by omega
 simp only[h1,if_true,Int.ediv_one]
 split <;> omega
theorem zdv{v:Value}{o:Option Int}{Q:Option Int->Shared->Prop}(p:IsPart v o)(h:Q o s):wpAny (model prog w) A (Builtin.Slice.slicePartIndex v) Q E s:=by
 cases p with
 |none=>exact slicePart_none h
 |int i t=>exact slicePart_int h
theorem sliceApplied_gen{sl:Addr}{vl vu:Value}{lo hi:Option Int}{n:Nat}{Q:Int×Int×Nat->Shared->Prop}(hs:s.heap.IsSliceOf sl vl vu .none)(pl:IsPart vl lo)(pu:IsPart vu hi)
  (h:Q (((sIx n 0 lo:Nat):Int),1,sIx n n hi-sIx n 0 lo) s):wpAny (model prog w) A (Builtin.Slice.sliceApplied (.ref sl) (pure (n:Int))) Q E s:=by
 obtain⟨os,hos,hcs,hds⟩:=id hs;unfold Builtin.Slice.sliceApplied Builtin.Slice.sliceFields;refine wpAny_bind (wpAny_bind (wpAny_field hos hds (x:=vl) rfl (wpAny_bind (wpAny_field hos hds (x:=vu) rfl (wpAny_bind (wpAny_field hos hds (x:=.none) rfl (wpAny_pure ?_)))))));refine wpAny_bind (slicePart_none ?_);show wpAny _ _ (if ((1:Int) == 0)=true then _ else _) _ _ s;rw[if_neg (by decide)];refine wpAny_bind (zdv pl (wpAny_bind (zdv pu (wpAny_bind (wpAny_pure ?_)))));show wpAny _ _ (match Builtin.Slice.sliceAdjust lo hi 1 (n:Int) with |(lo,hi)=>pure (lo,(1:Int),Builtin.Slice.slicePlaces lo hi 1)) _ _ s;rw[zi4 lo hi n];show wpAny _ _ (pure (((sIx n 0 lo:Nat):Int),(1:Int),Builtin.Slice.slicePlaces ((sIx n 0 lo:Nat):Int) ((sIx n n hi:Nat):Int) 1)) _ _ s;rw[zi5];exact wpAny_pure h
theorem znr(xs:Array Value)(i k:Nat):((List.range k).filterMap λ(m:Nat)=>xs[((i:Int)+(m:Int) * 1).toNat]?).toArray=((xs.toList.drop i).take k).toArray:=by
 have e:(λ(m:Nat)=>xs[((i:Int)+(m:Int) * 1).toNat]?)=λm=>xs[i+m]?:=by
  funext m
  have:((i:Int)+(m:Int) * 1).toNat=i+m:=by omega
  rw[this]
 rw[e];have:=pick_run xs i k;rw[List.filterMap_map]at this;have e2:((λx=>xs[x]?) ∘ λx=>i+x)=λm=>xs[i+m]?:=rfl;rw[e2]at this;rw[this]
theorem getItem_tuple_cut{t sl:Addr}{items:Array Value}{vl vu:Value}{lo hi:Option Int}{Q:Value->Shared->Prop}(ht:IsTup s.heap t items)(hs:s.heap.IsSliceOf sl vl vu .none)(pl:IsPart vl lo)(pu:IsPart vu hi)
  (hw:¬ (sIx items.size 0 lo=0/\sIx items.size items.size hi=items.size))
  (h:Q (.ref s.heap.objs.size) { s with heap:=s.heap.push { cls:=.type "tuple",data:=.seq ((items.toList.drop (sIx items.size 0 lo)).take (sIx items.size items.size hi-sIx items.size 0 lo)).toArray } })
  (hsz:items.size<=sizeLine):wpAny (model prog w) A (getItem (.ref t) (.ref sl)) Q E s:=by
 have htake:sizeOk (.seq ((items.toList.drop (sIx items.size 0 lo)).take (sIx items.size items.size hi-sIx items.size 0 lo)).toArray):=by
  show((items.toList.drop (sIx items.size 0 lo)).take (sIx items.size items.size hi-sIx items.size 0 lo)).toArray.size<=sizeLine;rw[List.size_toArray,List.length_take,List.length_drop,Array.length_toList];omega
 have hj:sIx items.size items.size hi<=items.size:=zta _ _ (Nat.le_refl _) hi;obtain⟨os,hos,hcs,hds⟩:=id hs;have hTs:s.TypeIs (.ref sl) "slice" :=⟨os,hos,hcs⟩
 unfold getItem
 try with_reducible refine wpAny_holding ?_
 first|refine wpAny_bind (wpAny_pure ?_)|skip
 refine wpAny_bind (wpAny_sequenceKey ht.typeIs (by decide) ?_);refine wpAny_bind (wpAny_callSpecial?_slot (name:=Str.ofString "__getitem__") ht.typeIs PyProof.Rows.slot_tuple_getitem
  (wpAny_call_entry PyProof.Rows.slot_tuple_getitem ht.typeIs entry_tuple_getitem ?_ (args_tuple_getitem _ _)))
 show wpAny _ _ (Builtin.Tuple.tupleItemsOf (.ref t) >>= _) _ _ s;refine wpAny_bind (tupleItemsOf_ ht ?_);refine wpAny_bind (wpAny_typeOf hTs ?_);rw[if_pos (by decide)];refine wpAny_bind (sliceApplied_gen hs pl pu ?_);have hno:¬ ((((sIx items.size 0 lo:Nat):Int) == 0 && (1:Int) == 1 && (sIx items.size items.size hi-sIx items.size 0 lo) == items.size)=true):=by
  intro q;rw[Bool.and_eq_true,Bool.and_eq_true]at q;have q1:((sIx items.size 0 lo:Nat):Int)=0:=eq_of_beq q.1.1;have q2:sIx items.size items.size hi-sIx items.size 0 lo=items.size:=eq_of_beq q.2;exact hw ⟨by omega,by omega⟩
 show wpAny _ _ (if (((sIx items.size 0 lo:Nat):Int) == 0 && (1:Int) == 1 && (sIx items.size items.size hi-sIx items.size 0 lo) == items.size)=true then _ else _) _ _ s;rw[if_neg hno,znr]
 first
  |exact wpAny_bind (m:=Builtin.Tuple.tupleExact _) (wpAny_newObj_type (wpAny_pure ⟨_,rfl,wpAny_pure h⟩) htake)
  |exact wpAny_bind (m:=Builtin.Tuple.tupleExact _) (wpAny_newObj_type (wpAny_bind (wpAny_pure (wpAny_pure ⟨_,rfl,wpAny_pure h⟩))) htake)
  |exact wpAny_bind (wpAny_bind (m:=Builtin.Tuple.tupleExact _) (wpAny_newObj_type (wpAny_pure (wpAny_pure ⟨_,rfl,wpAny_pure h⟩)) htake))
  |exact wpAny_bind (wpAny_bind (m:=Builtin.Tuple.tupleExact _) (wpAny_newObj_type (wpAny_pure ⟨_,rfl,wpAny_pure h⟩) htake))
end
end HT
namespace L2
open PySem PySem.Spec PyProof.Rows
abbrev TO:=St->Hp->(Option Int->Hp->Prop)->Prop
def PO(X:Cx)(e:Option Expr)(t:TO):Prop :=
 ∀(pins:List (Addr×Obj)) (s:Shared) (σ:St) (H:Hp) (Q:Option Int->Hp->Prop),Inv X pins σ H s->t σ H Q ->
  wpAny (model X.prog X.w) X.A (evalPart e X.env) (λu s'=>∃o H',Inv X pins σ H' s'/\IsPart u o/\Q o H') X.xe s
def zqa:TO:=λ_ H Q=>Q none H
def zvp(t:TE):TO:=λσ H Q=>t σ H λx H1=>∃i,x=.int i/\Q (some i) H1
theorem v3{ns:List Int}:∀{us:List Value},Vals (ns.map V.int) us->IntsAre us ns:=by
 induction ns with
 |nil=>intro us r;rw[List.map_nil]at r;cases r;exact .nil
 |cons n ns ih=>
  intro us r;rw[List.map_cons]at r
  cases r with
  |cons r1 r2=>
   obtain⟨t,e⟩:=r1;subst e;exact .cons n t (ih r2)
section
variable {X:Cx}{e:Expr}{te:TE}{lo hi:Option Expr}{tl th:TO}{pos p2:Pos}
theorem zqb:PO X none zqa:=by
 intro pins s σ H Q I h;rw[evalPart_none];exact wpAny_pure ⟨none,H,I,.none,h⟩
theorem zqc(h:PE X e te):PO X (some e) (zvp te):=by
 intro pins s σ H Q I hw;rw[evalPart_some];refine thn (h pins s σ H _ I hw) λu s1 ⟨x,H1,I1,r1,q1⟩=>?_;obtain⟨i,rfl,q⟩:=q1;obtain⟨t,rfl⟩:=r1;exact⟨some i,H1,I1,.int i t,q⟩
def SlR(X:Cx)(r:V->Option Int->Option Int->Hp->VK->Prop):Prop :=
 ∀(pins:List (Addr×Obj)) (s:Shared) (σ:St) (H:Hp) (x:V) (v vl vu:Value) (lo hi:Option Int) (sl:Addr) (Q:VK),Inv X pins σ H s->RelV x v->s.heap.IsSliceOf sl vl vu .none->IsPart vl lo->IsPart vu hi->r x lo hi H Q ->
  ∃T id,typeLookup (.type T) "__getitem__" = pure (some (.builtin id))/\s.TypeIs v T/\wpAny (model X.prog X.w) X.A (getItem v (.ref sl)) (EP X pins σ Q) X.xe s
theorem SlR.or{r r':V->Option Int->Option Int->Hp->VK->Prop}(h:SlR X r)(h':SlR X r'):SlR X (λx lo hi H Q=>r x lo hi H Q\/r' x lo hi H Q):=by
 intro pins s σ H x v vl vu lo hi sl Q I rx hs pl pu q;rcases q with q|q
 ·exact h pins s σ H x v vl vu lo hi sl Q I rx hs pl pu q
 ·exact h' pins s σ H x v vl vu lo hi sl Q I rx hs pl pu q
def tSl(r:V->Option Int->Option Int->Hp->VK->Prop)(te:TE)(tl th:TO):TE:=λσ H Q=>te σ H λx H1=>tl σ H1 λl H2=>th σ H2 λu H3=>r x l u H3 Q
theorem zhg{r:V->Option Int->Option Int->Hp->VK->Prop}(hr:SlR X r)(he:PE X e te)(hl:PO X lo tl)(hu:PO X hi th):PE X (.Subscript e (.Slice lo hi none p2) pos) (tSl r te tl th):=by
 intro pins s σ H Q I h;refine Subscript_ (thn (he pins s σ H _ I h) λv s1 ⟨x,H1,I1,r1,q1⟩=>?_);refine wpAny_Slice (thn (hl pins s1 σ H1 _ I1 q1) λvl s2 ⟨l,H2,I2,pl,q2⟩=>thn (hu pins s2 σ H2 _ I2 q2) λvu s3 ⟨u,H3,I3,pu,q3⟩=>?_);rw[evalPart_none];refine wpAny_pure ?_;have I4:Inv X pins σ H3 { s3 with heap:=s3.heap.push { cls:=.type "slice",data:=.fields #[vl,vu,.none] } }:=I3.kept (t':=s3.toks) λb ob q=>Heap.get?_push_of_some _ q;obtain⟨T,id,hT,ht,hg⟩:=hr pins { s3 with heap:=s3.heap.push { cls:=.type "slice",data:=.fields #[vl,vu,.none] } } σ H3 x v vl vu l u s3.heap.objs.size Q I4 r1 (Heap.IsSliceOf.new ..) pl pu q3;show wpAny (model X.prog X.w) X.A (subscriptTail e (.Slice lo hi none p2) v (.ref s3.heap.objs.size)) (EP X pins σ Q) X.xe { s3 with heap:=s3.heap.push { cls:=.type "slice",data:=.fields #[vl,vu,.none] } };exact tail_any (ops:=[.ref s3.heap.objs.size,v]) ht hT hg (by with_unfolding_all rfl)
def ze3(xs:List V)(lo hi:Option Int):List V:=(xs.drop (HT.sIx xs.length 0 lo)).take (HT.sIx xs.length xs.length hi-HT.sIx xs.length 0 lo)
theorem zcq(xs:List V)(lo hi:Option Int):(ze3 xs lo hi).length<=xs.length:=by
 unfold ze3;rw[List.length_take,List.length_drop];omega
def zw6(K:PySem.W.Frag):V->Option Int->Option Int->Hp->VK->Prop:=λx lo hi H Q=>∃a xs,x=.ref a/\SqT K H a xs /\
 ¬ (HT.sIx xs.length 0 lo=0/\HT.sIx xs.length xs.length hi=xs.length)/\∀p,H p=none->Q (.ref p) (upd H p (.tup (ze3 xs lo hi)))
theorem ztb:SlR X (zw6 X.K):=by
 intro pins s σ H x v vl vu lo hi sl Q I rx hs pl pu h;obtain⟨a,xs,rfl,hx,hw,q⟩:=h
 cases rx;obtain⟨its,r,ht,hz⟩:=I.tuple hx;have hlen:its.toArray.size=xs.length:=by rw[List.size_toArray];exact r.length.symm
 refine⟨"tuple",_,PyProof.Rows.slot_tuple_getitem.lookup,ht.typeIs,?_⟩;refine HT.getItem_tuple_cut ht hs pl pu (by rw[hlen];exact hw) ?_ (by rw[hlen];exact hz);rw[hlen];refine⟨.ref s.heap.objs.size,_,I.laid (t':=s.toks) (o:=.tup (ze3 xs lo hi)) (λb ob q=>Heap.get?_push_of_some _ q) (Nat.le_refl _) ?_,rfl,q _ (I.hok.fresh (Nat.le_refl _))⟩;exact⟨Nat.le_trans (zcq xs lo hi) hz,_,(r.drop (HT.sIx xs.length 0 lo)).take (HT.sIx xs.length xs.length hi-HT.sIx xs.length 0 lo),TupD.new _ _⟩
theorem Vals.nil_iff{xs:List V}{us:List Value}(r:Vals xs us):us = []↔xs = []:=by
 cases r with
 |nil=>simp
 |cons _ _=>simp
end
def ixN(n:Nat)(i:Int):Option Nat:=if 0<=i then (if i<n then some i.toNat else none) else if -(n:Int)<=i then some (i+n).toNat else none
def atI{α:Type}(xs:List α)(i:Int):Option α:=(ixN xs.length i).bind λj=>xs[j]?
theorem zko{n:Nat}{i:Int}{j:Nat}(h:ixN n i=some j):seqIndex? i n=some j/\j<n/\-(n:Int)<=i/\i<n:=by
 unfold ixN at h
 by_cases h0:0<=i
 ·rw[if_pos h0]at h
  by_cases h1:i<n
  ·rw[if_pos h1]at h;have e:i.toNat=j:=Option.some.inj h;exact⟨by rw[seqIndex_of h0 h1,e],by omega,by omega,h1⟩
  ·rw[if_neg h1]at h;cases h
 ·rw[if_neg h0]at h
  by_cases h1 : -(n:Int)<=i
  ·rw[if_pos h1]at h;have e:(i+n).toNat=j:=Option.some.inj h;exact⟨by rw[seqIndex_neg (by omega) h1,e],by omega,h1,by omega⟩
  ·rw[if_neg h1]at h;cases h
theorem zgd{α:Type}{xs:List α}{i:Int}{v:α}(h:atI xs i=some v):∃j,seqIndex? i xs.length=some j/\xs[j]?=some v/\j<xs.length/\-(xs.length:Int)<=i/\i<xs.length:=by
 unfold atI at h
 cases e:ixN xs.length i with
 |none=>rw[e]at h;cases h
 |some j=>
  rw[e]at h;obtain⟨h1,h2,h3,h4⟩:=zko e;exact⟨j,h1,h,h2,h3,h4⟩
theorem zal{α:Type}{xs:List α}{j:Nat}{v:α}(h:xs[j]?=some v):atI xs (j:Int)=some v:=by
 have hj:j<xs.length:=(List.getElem?_eq_some_iff.mp h).1;have e:ixN xs.length (j:Int)=some j:=by
  unfold ixN;rw[if_pos (by omega),if_pos (by omega)];simp
 unfold atI;rw[e];exact h
theorem zhh{α:Type}(xs:List α)(v:α):atI (xs ++ [v]) (-1)=some v:=by
 have hl:(xs ++ [v]).length=xs.length+1:=by simp
 have e:ixN (xs ++ [v]).length (-1)=some xs.length:=by
  unfold ixN;rw[hl,if_neg (by decide),if_pos (by omega)];congr 1;omega
 unfold atI;rw[e];show(xs ++ [v])[xs.length]?=some v;simp
def zam(b:Expr):Prop:=∀o i,subscripted b false o i=operate [o,i] (getItem o i)
def IxR(X:Cx)(r:R2):Prop :=
 ∀(value slice:Expr) (pins:List (Addr×Obj)) (s:Shared) (σ:St) (H:Hp) (x y:V) (v u:Value) (Q:VK),Inv X pins σ H s->RelV x v->RelV y u->r x y H Q ->
  subscripted slice false v u=operate [v,u] (getItem v u)->wpAny (model X.prog X.w) X.A (subscriptTail value slice v u) (EP X pins σ Q) X.xe s
def MtR(X:Cx)(id:String)(r:V->List V->Hp->VK->Prop):Prop :=
 ∀(pins:List (Addr×Obj)) (s:Shared) (σ:St) (H:Hp) (x:V) (xs:List V) (v:Value) (us:List Value) (Q:VK),Inv X pins σ H s->RelV x v->Vals xs us->r x xs H Q ->
  wpAny (model X.prog X.w) X.A (call (.builtin id) (v::us)) (EP X pins σ Q) X.xe s
section
variable {X:Cx}{a b:Expr}{ta tb:TE}{pos:Pos}
theorem IxR.or{r r':R2}(h:IxR X r)(h':IxR X r'):IxR X (λx y H Q=>r x y H Q\/r' x y H Q):=by
 intro value slice pins s σ H x y v u Q I rx ry q hs;rcases q with q|q
 ·exact h value slice pins s σ H x y v u Q I rx ry q hs
 ·exact h' value slice pins s σ H x y v u Q I rx ry q hs
theorem j6{r:R2}(hr:IxR X r)(ha:PE X a ta)(hb:PE X b tb)(hs:zam b):PE X (.Subscript a b pos) (tOp r ta tb):=by
 intro pins s σ H Q I h;exact Subscript_ (zvh ha hb I h λv u s2 x y H2 I2 rx ry q=>hr a b pins s2 σ H2 x y v u Q I2 rx ry q (hs _ _))
def zvq(K:PySem.W.Frag):R2:=λx y H Q=>∃p xs i v,x=.ref p/\y=.int i/\SqL K H p xs/\atI xs i=some v/\Q v H
def zvr(K:PySem.W.Frag):R2:=λx y H Q=>∃p xs i v,x=.ref p/\y=.int i/\SqT K H p xs/\atI xs i=some v/\Q v H
def zvs:R2:=λx y H Q=>∃z i c,x=.str z/\y=.int i/\z.length<=sizeLine/\atI z.cps.toList i=some c/\Q (.str ⟨#[c]⟩) H
theorem ix_list:IxR X (zvq X.K):=by
 intro value slice pins s σ H x y v u Q I rx ry h hs;obtain⟨p,xs,i,z,rfl,rfl,hq,he,q⟩:=h
 cases rx;obtain⟨t,rfl⟩:=ry;obtain⟨its,r,pl,hz⟩:=I.list hq;obtain⟨j,h1,h2,h3,h4,h5⟩:=zgd he;obtain⟨w,ew,rw'⟩:=r.get h2;have hl:=r.length;have hn:=za4;have fin:EP X pins σ Q w s:=⟨z,H,I,rw',q⟩
 by_cases h0:0<=i
 ·have hj:i.toNat=j:=by
   rw[seqIndex_of h0 h5]at h1;exact Option.some.inj h1
  exact item_listR pl.isList h0 (by omega) (by rw[hj];simpa using ew) fin hs
 ·have hj:(i+(its.toArray.size:Int)).toNat=j:=by
   rw[seqIndex_neg (by omega) h4]at h1;rw[List.size_toArray,<-hl];exact Option.some.inj h1
  exact subscriptTail_builtinR (x:=w) pl.isList.typeIs slot_list_getitem.lookup
   (wpAny_getItem_list_neg (Q:=λr s'=>r=w/\EP X pins σ Q r s') pl.isList (by omega) (by rw[List.size_toArray] <;> omega) (by omega) (by rw[hj];simpa using ew) ⟨rfl,fin⟩) hs
theorem ix_tup:IxR X (zvr X.K):=by
 intro value slice pins s σ H x y v u Q I rx ry h hs;obtain⟨p,xs,i,z,rfl,rfl,hq,he,q⟩:=h
 cases rx;obtain⟨t,rfl⟩:=ry;obtain⟨its,r,pl,hz⟩:=I.tuple hq;obtain⟨j,h1,h2,h3,h4,h5⟩:=zgd he;obtain⟨w,ew,rw'⟩:=r.get h2;have hl:=r.length;have hn:=za4;have fin:EP X pins σ Q w s:=⟨z,H,I,rw',q⟩
 exact subscriptTail_builtinR (x:=w) pl.typeIs slot_tuple_getitem.lookup
  (getItem_tuple (j:=j) (Q:=λr s'=>r=w/\EP X pins σ Q r s') pl (by omega) (by omega) (by rw[List.size_toArray,<-hl];exact h1) (by simpa using ew) ⟨rfl,fin⟩) hs
theorem ztc:IxR X zvs:=by
 intro value slice pins s σ H x y v u Q I rx ry h hs;obtain⟨z,i,c,rfl,rfl,hz,he,q⟩:=h;obtain⟨t,rfl⟩:=rx;obtain⟨t',rfl⟩:=ry;obtain⟨j,h1,h2,h3,h4,h5⟩:=zgd he;have hl:z.cps.toList.length=z.length:=by simp[Str.length]
 rw[hl]at h1 h4 h5;have hn:=za4;exact tail_any (typeIs_str s z t) slot_str_getitem.lookup (getItem_str (c:=c) (by
  have e1:decide (i < -(2 ^ 63:Int))=false:=decide_eq_false (by omega);have e2:decide (i ≥ 2 ^ 63)=false:=decide_eq_false (by omega);rw[e1,e2,Bool.or_false]) (by rw[h1];simpa using h2) ⟨.str ⟨#[c]⟩,H,I.tok _,⟨_,rfl⟩,q⟩) hs
def rIx(K:PySem.W.Frag):R2:=λx y H Q=>zvq K x y H Q\/zvr K x y H Q\/zvs x y H Q
theorem ztd:IxR X (rIx X.K):=ix_list.or (ix_tup.or ztc)
theorem zi6(its:List Value)(n j:Nat)(u:Value):Obj.mapSeq (·.setIfInBounds j u) { cls:=.type "list",data:=.seq its.toArray n } = { cls:=.type "list",data:=.seq (its.set j u).toArray n }:=by
 simp[Obj.mapSeq]
theorem Inv.lst{pins:List (Addr×Obj)}{σ:St}{H:Hp}{s:Shared}{p:Addr}{xs:List V}(I:Inv X pins σ H s)(h:H p=some (.lst xs)):
  ∃(its:List Value) (n:Nat),Vals xs its/\s.heap.get? p=some { cls:=.type "list",data:=.seq its.toArray n }/\xs.length<=sizeLine:=by
 obtain⟨z,its,n,r,e⟩:=I.hok p _ h;exact⟨its,n,r,e,z⟩
theorem Inv.lstUpd{pins:List (Addr×Obj)}{σ:St}{H:Hp}{s:Shared}{p:Addr}{xs ys:List V}{its its':List Value}{n n':Nat}{f:Obj->Obj}(I:Inv X pins σ H s)(h:H p=some (.lst xs))
  (ho:s.heap.get? p=some { cls:=.type "list",data:=.seq its.toArray n }) (hf:f { cls:=.type "list",data:=.seq its.toArray n } = { cls:=.type "list",data:=.seq its'.toArray n' }) (r:Vals ys its') (hz:ys.length<=sizeLine) (t:Nat) :
  Inv X pins σ (upd H p (.lst ys)) { s with heap:=s.heap.update p f,toks:=t }:=by
 have e:(s.heap.update p f).get? p=some { cls:=.type "list",data:=.seq its'.toArray n' }:=by
  rw[Heap.get?_update_self f ho (by rw[hf] <;> rfl),hf]
 refine I.write (x:=p) (e:=p) (by rw[h];trivial) (.inl rfl) (λb u hb q=>(Heap.get?_update_other _ _ (Ne.symm hb)).trans q) ⟨_,e⟩ ?_;exact⟨hz,its',n',r,e⟩
def zvt:V->V->V->Hp->(Hp->Prop)->Prop:=λo i v H Q=>∃p xs k j,o=.ref p/\i=.int k/\H p=some (.lst xs)/\ixN xs.length k=some j/\Q (upd H p (.lst (xs.set j v)))
theorem zbk:zve X zvt:=by
 intro pins s σ H o i v ov iv u Q I ro ri rv h;obtain⟨p,xs,k,j,rfl,rfl,hp,hj,q⟩:=h
 cases ro;obtain⟨t,rfl⟩:=ri;obtain⟨its,n,r,ho,hz⟩:=I.lst hp;obtain⟨h1,h2,h3,h4⟩:=zko hj;have hl:=r.length;have hn:=za4;have I':Inv X pins σ (upd H p (.lst (xs.set j v))) { s with heap:=s.heap.update p (Obj.mapSeq (·.setIfInBounds j u)) } :=
  I.lstUpd hp ho (zi6 its n j u) (r.set rv j) (by rw[List.length_set];exact hz) s.toks
 by_cases h0:0<=k
 ·have hk:k.toNat=j:=by
   rw[seqIndex_of h0 h4]at h1;exact Option.some.inj h1
  exact PySem.W.ki_setAt ho h0 (by omega) (by rw[List.size_toArray,<-hl];exact h4) (by rw[hk];exact⟨_,I',q⟩)
 ·have hk:(k+(its.toArray.size:Int)).toNat=j:=by
   rw[seqIndex_neg (by omega) h3]at h1;rw[List.size_toArray,<-hl];exact Option.some.inj h1
  exact PySem.W.ki_setBack ho (by omega) (by rw[List.size_toArray,<-hl];exact h3) (by omega) (by rw[hk];exact⟨_,I',q⟩)
theorem zge(lo hi:Option Int)(n:Nat):(sliceBounds lo hi none n).1=((HT.sIx n 0 lo:Nat):Int)/\(sliceBounds lo hi none n).2.1=((HT.sIx n n hi:Nat):Int)/\(sliceBounds lo hi none n).2.2=1:=by
 refine⟨?_,?_,rfl⟩
 ·cases lo with
  |none=>simp[sliceBounds,HT.sIx]
  |some i=>
   simp only[sliceBounds,HT.sIx,Option.getD_none,show(1:Int) > 0 by decide,if_true]
   by_cases h:i<0
   ·simp only[h,if_true] <;> omega
   ·simp only[h,if_false] <;> omega
 ·cases hi with
  |none=>simp[sliceBounds,HT.sIx]
  |some i=>
   simp only[sliceBounds,HT.sIx,Option.getD_none,show(1:Int) > 0 by decide,if_true]
   by_cases h:i<0
   ·simp only[h,if_true] <;> omega
   ·simp only[h,if_false] <;> omega
theorem ze4(its:List Value)(lo hi:Option Int):slicePick its.toArray lo hi none=((its.drop (HT.sIx its.length 0 lo)).take (HT.sIx its.length its.length hi-HT.sIx its.length 0 lo)).toArray:=by
 obtain⟨h1,h2,h3⟩:=zge lo hi its.toArray.size;unfold slicePick;rw[h1,h2,h3];simp only[sliceRange_one,pick_run,List.size_toArray] <;> rfl
def zw7(K:PySem.W.Frag):V->Option Int->Option Int->Hp->VK->Prop:=λx lo hi H Q=>∃a xs,x=.ref a/\SqL K H a xs/\∀p,H p=none->Q (.ref p) (upd H p (.lst (ze3 xs lo hi)))
theorem zkp:SlR X (zw7 X.K):=by
 intro pins s σ H x v vl vu lo hi sl Q I rx hs pl pu h;obtain⟨a,xs,rfl,hx,q⟩:=h
 cases rx;obtain⟨its,r,ht,hz⟩:=I.list hx;have hlen:=r.length;refine⟨"list",_,slot_list_getitem.lookup,ht.isList.typeIs,?_⟩;refine wpAny_getItem_list_slice ht.isList hs pl pu .none (by simp) ?_ (by rw[List.size_toArray] <;> omega);rw[ze4,<-hlen];refine⟨.ref s.heap.objs.size,_,I.laid (t':=s.toks) (o:=.lst (ze3 xs lo hi)) (λb ob q=>Heap.get?_push_of_some _ q) (Nat.le_refl _) ?_,rfl,q _ (I.hok.fresh (Nat.le_refl _))⟩;exact⟨Nat.le_trans (zcq xs lo hi) hz,_,0,(r.drop (HT.sIx xs.length 0 lo)).take (HT.sIx xs.length xs.length hi-HT.sIx xs.length 0 lo),Heap.get?_push_size _ rfl⟩
theorem zgf:qu X (.builtin "len") (λxs H Q=>∃p ys,xs = [.ref p]/\(SqL X.K H p ys\/SqT X.K H p ys)/\Q (.int ys.length) H):=by
 intro pins s σ H xs us Q I r h;obtain⟨p,ys,rfl,hq,q⟩:=h;obtain⟨u,rfl,rx⟩:=zhe r
 cases rx;have hn:=za4;rcases hq with hq|hq
 ·obtain⟨its,r',pl,hz⟩:=I.list hq;have hlen:=r'.length;exact Calls.call_len_list pl.isList (by simp only[List.size_toArray] <;> omega) ⟨.int ys.length,H,I.tok _,⟨s.toks+1,by rw[List.size_toArray,hlen]⟩,q⟩
 ·obtain⟨its,r',pl,hz⟩:=I.tuple hq;have hlen:=r'.length;exact len_tuple pl (by simp only[List.size_toArray] <;> omega) ⟨.int ys.length,H,I.tok _,⟨s.toks+1,by rw[List.size_toArray,hlen]⟩,q⟩
theorem ze5:qu X (.type "tuple") (λxs H Q=>∃p ys,xs = [.ref p]/\((SqL X.K H p ys/\∀l,H l=none->Q (.ref l) (upd H l (.tup ys)))\/(SqT X.K H p ys/\Q (.ref p) H))):=by
 intro pins s σ H xs us Q I r h;obtain⟨p,ys,rfl,h⟩:=h;obtain⟨u,rfl,rx⟩:=zhe r
 cases rx;rcases h with⟨hq,q⟩ |⟨hq,q⟩
 ·obtain⟨its,r',pl,hz⟩:=I.list hq;have hlen:=r'.length;refine call_tuple_list pl.isList (λh' kp=>?_) (by simp only[List.size_toArray] <;> omega);have I1:Inv X pins σ H { s with heap:=h' }:=I.kept (t':=s.toks) kp
  have I2:Inv X pins σ (upd H h'.objs.size (.tup ys)) { s with heap:=h'.push { cls:=.type "tuple",data:=.seq its.toArray } } :=
   I1.laid (t':=s.toks) (λb o e=>Heap.get?_push_of_some _ e) (Nat.le_refl _) (show ObjOk X.prog X.w _ _ _ (.tup ys) from⟨hz,its,r',TupD.new _ _⟩)
  exact⟨.ref h'.objs.size,_,I2,rfl,q _ (I1.hok.fresh (Nat.le_refl _))⟩
 ·obtain⟨its,r',pl,hz⟩:=I.tuple hq;exact call_tuple_same pl ⟨.ref p,H,I,rfl,q⟩
def tyV(K:PySem.W.Frag)(T:String)(x:V)(H:Hp):Prop:=match x with
 |.str _=>T = "str"
 |.int _=>T = "int"
 |.ref p=>(T = "list" /\ ∃xs,SqL K H p xs)\/(T = "tuple" /\ ∃xs,SqT K H p xs) \/
   (T = "dict" /\((∃kvs,H p=some (.dK kvs))\/∃kvs,H p=some (.dT kvs)))\/(T = "set" /\ ∃S n,H p=some (.set S n))
 |_=>False
theorem zte{pins:List (Addr×Obj)}{σ:St}{H:Hp}{s:Shared}{T:String}{x:V}{v:Value}(I:Inv X pins σ H s)(r:RelV x v)(ty:tyV X.K T x H):
  s.TypeIs v T/\∀a,v=.ref a->∃ob,s.heap.get? a=some ob/\ob.dict=none:=by
 cases x with
 |str z=>
  obtain⟨t,rfl⟩:=r
  cases (show T = "str" from ty);exact⟨typeIs_str s z t,λ_ e=>nomatch e⟩
 |int i=>
  obtain⟨t,rfl⟩:=r
  cases (show T = "int" from ty);exact⟨typeIs_int s i t,λ_ e=>nomatch e⟩
 |ref p=>
  cases r;rcases ty with⟨rfl,xs,hq⟩ |⟨rfl,xs,hq⟩ |⟨rfl,hk⟩ |⟨rfl,S,n,hk⟩
  ·obtain⟨its,_,pl,_⟩:=I.list hq;refine⟨pl.isList.typeIs,λa e=>?_⟩
   cases e;obtain⟨o,n,e,c,hd,_⟩:=pl;exact⟨o,e,hd⟩
  ·obtain⟨its,_,pl,_⟩:=I.tupleD hq;refine⟨pl.isTup.typeIs,λa e=>?_⟩
   cases e;obtain⟨o,e,_,_,hd⟩:=pl;exact⟨o,e,hd⟩
  ·have z:∃o,s.heap.get? p=some o/\o.ExactDict:=by
    rcases hk with⟨kvs,hk⟩ |⟨kvs,hk⟩
    ·obtain⟨_,_,_,_,o,_,_,e,ex,_⟩:=I.hok p _ hk;exact⟨o,e,ex⟩
    ·obtain⟨_,_,_,_,o,_,_,e,ex,_⟩:=I.hok p _ hk;exact⟨o,e,ex⟩
   obtain⟨o,e,ex⟩:=z;refine⟨⟨o,e,ex.1⟩,λa e2=>?_⟩
   cases e2;exact⟨o,e,ex.2.1⟩
  ·obtain⟨o,_,_,_,e,ex,_⟩:=I.hok p _ hk;refine⟨⟨o,e,ex.1⟩,λa e2=>?_⟩
   cases e2;exact⟨o,e,ex.2.1⟩
 |_=>exact False.elim ty
def tBM(K:PySem.W.Frag)(T:String)(r:V->List V->Hp->VK->Prop)(to:TE)(t:TA):TE:=λσ H Q=>to σ H λx H1=>tyV K T x H1/\t σ H1 λxs H2=>r x xs H2 Q
variable {o e:Expr}{es:List Expr}{to:TE}{t:TA}{name:Str}{apos cpos:Pos}{T id:String}{r:V->List V->Hp->VK->Prop}
theorem zkq(pa:PlainAttrs T)(slot:Slot T name id)(hty:typeOf (.builtin id)=pure (.type "method_descriptor"))(hm:MtR X id r)(ho:PE X o to)(ha:PA X (e::es) t)
  (hbase:attributeBase o name X.env (eval o X.env)=eval o X.env:=by rfl)
  (hfew:((backTo cpos (starEach (e::es) X.env)).all (λx=>!x.1) && (backToKw cpos (keywordEach [] X.env)).all (λx=>x.1.isSome)
   && decide ((e::es).length+([]:List Keyword).length+(if ([]:List Keyword).isEmpty then 0 else 1)<30))=true:=by rfl)
  (hline:(apos.endLine == cpos.line)=true:=by rfl) (hs:starEach (e::es) X.env=(false,eval e X.env)::starEach es X.env:=by rfl) (hplain:(backTo cpos (starEach es X.env)).any (·.1)=false:=by rfl) :
  PE X (.Call (.Attribute o name apos) (e::es) [] cpos) (tBM X.K T r to t):=by
 intro pins s σ H Q I h;refine wpAny_Call_method_late hbase hfew hline rfl (thn (ho pins s σ H _ I h) λv s1 ⟨x,H1,I1,r1,ty,q1⟩=>?_);obtain⟨h1,h2⟩:=zte I1 r1 ty;refine⟨T,id,pa,slot,hty,h1,h2,?_⟩;have hA:=ha cpos pins s1 σ H1 _ I1 q1;rw[hs]at hA ⊢;refine Calls.callWith_builtin (by show(false ||(backTo cpos (starEach es X.env)).any (·.1))=false;rw[hplain] <;> rfl) (Calls.evalArgs_plain ?_);exact thn hA λus s2 ⟨vs,H2,I2,r2,q2⟩=>hm pins s2 σ H2 x vs v us Q I2 r1 r2 q2
end
def MtM(X:Cx)(id:String)(r:V->List V->Hp->VK->Prop):Prop :=
 ∀(pins:List (Addr×Obj)) (s:Shared) (σ:St) (H:Hp) (x:V) (xs:List V) (v:Value) (us:List Value) (Q:VK),Inv X pins σ H s->RelV x v->Vals xs us->r x xs H Q ->
  wpAny (model X.prog X.w) X.A (call (.builtin id) (v::us)) (EP X pins σ Q) X.xe s
theorem Vals.one{x:V}{us:List Value}(h:Vals [x] us):∃u,us = [u]/\RelV x u:=by
 cases h with
 |cons r h=>cases h;exact⟨_,rfl,r⟩
theorem Vals.two{x y:V}{us:List Value}(h:Vals [x,y] us):∃u v,us = [u,v]/\RelV x u/\RelV y v:=by
 cases h with
 |cons r h=>obtain⟨v,rfl,q⟩:=Vals.one h;exact⟨_,v,rfl,r,q⟩
theorem Vals.rep{xs:List V}{us:List Value}(h:Vals xs us):∀k:Nat,Vals (List.replicate k xs).flatten (List.replicate k us).flatten
 |0=>.nil
 |k+1=>by
  rw[List.replicate_succ,List.replicate_succ,List.flatten_cons,List.flatten_cons];exact Vals.append h (Vals.rep h k)
theorem zfm(its:List Value):∀(k:Nat) (acc:List Value),
  List.foldl (λx1 x2=>x1++x2) acc.toArray (List.replicate k its.toArray)=(acc++(List.replicate k its).flatten).toArray
 |0,acc=>by simp
 |k+1,acc=>by
  have e:acc.toArray++its.toArray=(acc++its).toArray:=by simp
  have e2:(acc++its)++(List.replicate k its).flatten=acc++(List.replicate (k+1) its).flatten:=by
   rw[List.replicate_succ,List.flatten_cons,List.append_assoc]
  rw[<-e2,<-zfm its k (acc++its),<-e,List.replicate_succ,List.foldl_cons]
section
variable {X:Cx}{pins:List (Addr×Obj)}{σ:St}{H:Hp}{s:Shared}{l b:Addr}{xs ys zs:List V}
theorem Inv.lset{its its':List Value}{n:Nat}{f:Array Value->Array Value}{t':Nat}(I:Inv X pins σ H s)(hH:H l=some (.lst xs))
  (e:s.heap.get? l=some { cls:=.type "list",data:=.seq its.toArray n }) (hf:f its.toArray=its'.toArray) (hv:Vals ys its') (hz:ys.length<=sizeLine) :
  Inv X pins σ (upd H l (.lst ys)) { s with heap:=s.heap.update l (Obj.mapSeq f),toks:=t' }:=by
 have q:=PySem.IsL.update e f;rw[hf]at q;refine I.write (x:=l) (e:=l) (by rw[hH];exact trivial) (.inl rfl) (λb' u hb hu=>(Heap.get?_update_other s.heap (Obj.mapSeq f) (Ne.symm hb)).trans hu) ⟨_,q⟩ ?_;exact⟨hz,its',_,hv,q⟩
theorem Inv.lnew{its:List Value}{t':Nat}(I:Inv X pins σ H s)(hv:Vals ys its)(hz:ys.length<=sizeLine):
  Inv X pins σ (upd H s.heap.objs.size (.lst ys)) { s with heap:=s.heap.push { cls:=.type "list",data:=.seq its.toArray },toks:=t' } :=
 I.laid (λ_ _ q=>Heap.get?_push_of_some _ q) (Nat.le_refl _) ⟨hz,its,0,hv,Heap.get?_push_size _ rfl⟩
theorem Inv.fresh(I:Inv X pins σ H s):H s.heap.objs.size=none:=I.hok.fresh (Nat.le_refl _)
theorem Inv.lstM(I:Inv X pins σ H s)(hH:H l=some (.lst xs)):xs.length<=sizeLine/\∃(its:List Value) (n:Nat),Vals xs its/\xs.length=its.length/\s.heap.get? l=some { cls:=.type "list",data:=.seq its.toArray n }:=by
 obtain⟨z,its,n,r,e⟩:=I.hok l _ hH;exact⟨z,its,n,r,r.length,e⟩
theorem zns{n:Nat}(h:n<=sizeLine):Builtin.List.listTooLong n=false:=by
 unfold Builtin.List.listTooLong;exact decide_eq_false (by omega)
end
section
variable {X:Cx}
def zqd:V->List V->Hp->VK->Prop:=λx vs H Q=>∃l xs y,x=.ref l/\vs = [y]/\H l=some (.lst xs)/\xs.length<sizeLine/\Q .non (upd H l (.lst (xs ++ [y])))
theorem je:MtM X "list.append" zqd:=by
 intro pins s σ H x vs v us Q I rx rv h;obtain⟨l,xs,y,rfl,rfl,hH,hz,q⟩:=h
 cases rx;obtain⟨u,rfl,ru⟩:=rv.one;obtain⟨z,its,n,r,hl,e⟩:=I.lstM hH;refine call_meets F.slot_list_append ⟨_,e,rfl⟩ F.entry_list_append (F.args_list_append_2 _ _) (PySem.list_append l its.toArray n u (by rw[List.size_toArray];omega)) ⟨e,?_⟩;refine⟨.non,_,I.lset (its':=its ++ [u]) hH e (by simp) (r.append (.cons ru .nil)) ?_,rfl,q⟩;rw[List.length_append,List.length_singleton];omega
theorem zqe{α:Type}(xs:List α)(k:Nat):(List.replicate k xs).flatten.length=k * xs.length:=by
 induction k with
 |zero=>simp
 |succ k ih=>rw[List.replicate_succ,List.flatten_cons,List.length_append,ih,Nat.succ_mul,Nat.add_comm]
end
end L2
namespace Att
open PySem PySem.W PySem.Calls PyProof.Rows
theorem zc1{P:Params}{h:Heap}:∀(ns:List Int) (vs:List Value),WellAll P h vs (ns.map WData.int)->IntsAre vs ns:=by
 intro ns
 induction ns with
 |nil=>
  intro vs w;rw[List.map_nil]at w
  cases w;exact .nil
 |cons n ns ih=>
  intro vs w;rw[List.map_cons]at w
  cases w with
  |cons a b=>
   cases a;exact .cons _ _ (ih _ b)
theorem zmb{l:OpenLaw}{n:Nat}(hn:l.most=some n){P:Params}{h:Heap}{args:List WData}{vals:List Value}
  (hpre:l.row.toRowW.claim.pre args=true) (hwl:WellAll P h vals args) :
  ∃a vs ns,vals = [Value.ref a]/\args = [WData.list (ns.map WData.int)]/\h.get? a=some { cls:=.type "list",data:=.seq vs.toArray }/\IntsAre vs ns/\ns.length<=n:=by
 have hsh:WShape.hasAll [] args [.list .int]=true:=(pre_splitW hpre).1;have hc:l.pre.holds [] { args:=args }=true:=(pre_splitW hpre).2;obtain⟨d,r,rfl,h1,h2⟩:=hasAllW_cons hsh;obtain rfl:=hasAllW_nil h2;obtain⟨xs,rfl,h3⟩:=hasW_list h1;obtain⟨ns,rfl⟩:=items_int h3;have hlen:ns.length<=n:=by
  unfold OpenLaw.pre at hc;have h4:(WTm.not (.lt (.lit (.int (n:Int))) (.len (.arg 0)))).holds [] { args:=[.list (ns.map .int)] }=true:=by
   have h4:=(holds_andW hc).1;rw[hn]at h4;exact h4
  have h5:=condW_of h4 (w_not (w_lt w_lit (w_len_list (w_arg rfl))));rw[List.length_map]at h5;refine Nat.le_of_not_lt λq=>?_;have q':(n:Int)<((ns.length:Nat):Int):=by omega
  first
   |(rw[decide_eq_true q']at h5;exact absurd h5 (by decide))
   |(simp at h5;omega)
 cases hwl with
 |cons w1 w2=>
  cases w2
  cases w1 with
  |list ho hall=>exact⟨_,_,ns,rfl,rfl,ho,zc1 ns _ hall,hlen⟩
theorem zmc(l:OpenLaw)(args:List WData):l.row.toRowW.claim.post args (.bool true) args=true :=
 postW_of (r:=l.row.toRowW) (X:=(true == true))
  (show WShape.has [] (.bool true) .bool=true by first|rfl|decide|simp[WShape.has,WShape.arms,WShape.armsAll])
  (show(WTm.eq .res (.lit (.bool true))).value [] { args:=args,res:=some (.bool true),after:=args }=some (.bool (true == true)) from w_eq_bool (w_res rfl) w_lit) rfl
theorem attach_call{l:OpenLaw}{n:Nat}{q:Program}{loose:List Str}{XP:(Str->Option Value)->Heap->Prop}{YP:World->Heap->Prop}{d:DefRec}
  (hn:l.most=some n) (hdf:d.params.defaults = [])
  (call:∀(w:World) (s₀ s₁:Shared) (mg mb:Str->Option Value) (fa:Addr) (o:Obj) (pm cd doc:Value) (a:Addr) (vs:List Value) (ns:List Int),
   Ground q loose [] XP w s₀ mg mb s₁.heap->YP w s₁.heap ->
   s₁.heap.get? fa=some o->o.data=.func (docDef d.name d.params d.body d.scope pm cd doc)->s₁.heap.CodeRec cd d.name->mg d.name=some (.ref fa) ->
   s₁.heap.get? a=some { cls:=.type "list",data:=.seq vs.toArray }->IntsAre vs ns->ns.length<=n->s₁.gens = #[] ->
   codeAny (model l.prog w) callerA (.call (.ref fa) ⟨[.ref a],[]⟩) (λr s'=>r=.ok (.ret (.bool true))/\OldK s₁.heap s'.heap/\s'.os=s₁.os/\AllBare s'.gens) s₁) :
  WalkO q loose XP YP l.row.toRowW d [] (λf vs=>PySem.call f vs):=by
 intro w s₀ s₁ mg mb G Y fa o pm cd doc dV kV ho hd hcd hD hmg hg args vals as hpre hlay hrd hwl hlo;obtain rfl:dV=.none:=Dflts.none hD hdf;obtain rfl:kV=.none:=Dflts.noKw hD;obtain⟨a,vs,ns,rfl,rfl,hobj,hints,hlen⟩:=zmb hn hpre hwl;refine enter_call (codeAny_mono (call w s₀ s₁ mg mb fa o pm cd doc a vs ns G Y ho (fd_plain hd) hcd hmg hobj hints hlen hg) λr s' hq=>?_);obtain⟨rfl,h2,h3,h4⟩:=hq;exact⟨.inl ⟨.bool true,.bool true,[],rfl,λ_=>rfl,.bool true,zmc l _,λ_=>⟨List.Pairwise.nil,λ_ hm=>(nomatch hm)⟩⟩,h2,h3,h4⟩
end Att
namespace L2
open PySem PySem.Spec PyProof.Rows
theorem zfn:∀{vs:List Value}{ns:List Int},IntsAre vs ns->Vals (ns.map V.int) vs
 |_,_,.nil=>.nil
 |_,_,.cons n t h=>.cons ⟨t,rfl⟩ (zfn h)
def zl(s:Stmt):Arguments:=match s with
 |.FunctionDef _ a _ _ _ _ _ _ _ _=>a
 |_=>{ posonlyargs:=[],args:=[],vararg:=none,kwonlyargs:=[],kw_defaults:=[],kwarg:=none,defaults:=[] }
def zj(s:Stmt):List Stmt:=match s with
 |.FunctionDef _ _ b _ _ _ _ _ _ _=>b
 |_=>[]
def zd(s:Stmt):Scope:=match s with
 |.FunctionDef _ _ _ _ _ _ sc _ _ _=>sc
 |_=>{ kind:=.function,names:=[],isGenerator:=false,isCoroutine:=false }
abbrev CX0:CXT:=λ_ _ _ _ _ _=>False
abbrev E0:XK:=λ_ _ _=>False
theorem zr0{X:Cx}:zi3 CX0 X E0:=λ_ _ _ _ _ _ _ h=>h.elim
structure Fun(K:PySem.W.Frag)(x qual:Str)(st:Stmt)(f:Addr)(fd:FuncData):Prop where
 ex:∃(oc:Value) (od:Option Addr) (kV doc pm:Value) (an:Option Addr) (cdv ct:Value) (osl:Array (Option Value)),
  fd=PySem.W.fnOf x qual (zl st) (zj st) (zd st) .none kV doc pm an cdv ct/\K.lookup f=some ⟨oc,od,.func fd,osl⟩/\PySem.W.codeIn K cdv qual=true
 kp:PySem.W.keepIn K (.ref f)=true
section
variable {P:Program}{w:World}{K:PySem.W.Frag}{mg:Str->Option Value}{base:Heap}
theorem Fun.ok{x qual:Str}{st:Stmt}{f:Addr}{fd:FuncData}{N ps:List Str}{k:Nat}{sp:Sp}(F:Fun K x qual st f fd)(S:yb N ps (zd st))(len:∀vs H Q E,sp vs H Q E->vs.length=ps.length)
  (hbody:∀(cdv:Value) (A:Around) (outer:List Env) (s:Shared) (H:Hp) (vs:List V) (Q:VK) (E:XK),Room k (A.deeper (envOfC qual (zd st) s.heap.objs.size f cdv))->sp vs H Q E ->
   ∃t,PSs (zgc CX0 P w K mg base N qual (zd st) f cdv A outer s H E).nox (zj st) t/\t { nx:=λ_ H'=>Q .non H',rt:=Q } (start N vs) H):FnOk P w K mg base CX0 (k+1) f fd ps sp:=by
 obtain⟨oc,od,kV,doc,pm,an,cdv,ct,osl,rfl,lk,hcd⟩:=F.ex;refine zrz lk hcd S len λA outer s H vs Q E hr hsp=>?_;obtain⟨t,h,q⟩:=hbody cdv A outer s H vs Q E hr hsp;exact⟨t,h.nox,q⟩
theorem Fun.binds{x qual:Str}{st:Stmt}{f:Addr}{fd:FuncData}{ps:List Str}(F:Fun K x qual st f fd)
  (h:∀(kV doc pm:Value) (an:Option Addr) (cdv ct:Value) (us:List Value),us.length=ps.length->bindArgs (PySem.W.fnOf x qual (zl st) (zj st) (zd st) .none kV doc pm an cdv ct) ⟨us,[]⟩=pure (ps.zip us)):Binds K fd ps []:=by
 obtain⟨oc,od,kV,doc,pm,an,cdv,ct,osl,rfl,lk,hcd⟩:=F.ex;exact .all (h kV doc pm an cdv ct)
theorem yq{x qual:Str}{st:Stmt}{f:Addr}{oc:Value}{od an:Option Addr}{osl:Array (Option Value)}{kV doc pm cdv ct:Value}(l:K.lookup f=some ⟨oc,od,.func (PySem.W.fnOf x qual (zl st) (zj st) (zd st) .none kV doc pm an cdv ct),osl⟩)
  (c:PySem.W.codeIn K cdv qual=true) (k:PySem.W.keepIn K (.ref f)=true):Fun K x qual st f (PySem.W.fnOf x qual (zl st) (zj st) (zd st) .none kV doc pm an cdv ct):=⟨⟨oc,od,kV,doc,pm,an,cdv,ct,osl,rfl,l,c⟩,k⟩
end
section
variable {X:Cx}
theorem pv(i:Nat){x:Str}{pos:Pos}(hN:X.N[i]?=some x:=by rfl)(hv:Vis X.env.scope x:=by first|exact Or.inl rfl|exact Or.inr (Or.inl rfl)|exact Or.inr (Or.inr rfl))(hd:(x ==("__debug__" : Str))=false:=by decide)
  (hcd:(x ==("__classdict__" : Str))=false:=by decide):PE X (.Name x pos) (zu7 i):=wm hN hv hd hcd
end
theorem zw8{A B:Prop}(h:B):if false=true then A else B:=by
 rw[if_neg Bool.false_ne_true];exact h
theorem zvu{c A B:Prop}[Decidable c](h1:c->A)(h2:¬ c->B):if c then A else B:=by
 by_cases h:c
 ·rw[if_pos h];exact h1 h
 ·rw[if_neg h];exact h2 h
def Same(H H':Hp):Prop:=∀b o,H b=some o->H' b=some o
theorem Same.refl(H:Hp):Same H H:=λ_ _ h=>h
theorem Same.trans{H H1 H2:Hp}(a:Same H H1)(b:Same H1 H2):Same H H2:=λc o h=>b c o (a c o h)
theorem Same.free{H H':Hp}(e:Same H H'){l:Addr}(h:H' l=Option.none):H l=Option.none:=by
 cases q:H l with
 |none=>rfl
 |some o=>
  rw[e l o q]at h
  cases h
theorem Same.seq{K:PySem.W.Frag}{H H':Hp}{a:Addr}{xs:List V}(e:Same H H')(h:SqL K H a xs):SqL K H' a xs:=by
 rcases h with(h |⟨o,h⟩)|h
 ·exact .inl (.inl (e _ _ h))
 ·exact .inl (.inr ⟨o,e _ _ h⟩)
 ·exact .inr h
theorem gg{P:Prop}(h:∀G:Prop,(P->G)->G):P:=h P id
theorem zgg{prog:Program}{w:World}{A:Around}{R:Result->Shared->Prop}{s:Shared}{elt target iter:Expr}{ifs:List Expr}{scope:Scope}{pos:Pos}{it acc:Value}{env:Env}(I:Nat->Shared->Prop)
  (turn:∀n s,I n s->wpAny (model prog w) A (pyNext it) (λr s1=>match r with
   |none=>R (.ok .next) s1
   |some v=>wpAny (model prog w) A (letOwnedTupleGo target it v) (λ_ s1'=>wpAny (model prog w) A (assign target env v) (λ_ s2=>
     wpAny (model prog w) A (forIn ifs true λc r=>if r=true then do let ok <-isTrue c env (eval c env);pure (ForInStep.yield ok) else pure (ForInStep.yield r)) (λok s3=>
      if ok=true then wpAny (model prog w) A (eval elt env) (λx s4=>
       wpAny (model prog w) A (call (.builtin "list.append") [acc,x]) (λ_ s5=>∃m,m<n/\I m s5) (λ_ _=>False) s4) (λ_ _=>False) s3
      else ∃m,m<n/\I m s3) (λ_ _=>False) s2) (λ_ _=>False) s1') (λ_ _=>False) s1) (λ_ _=>False) s)
  (n:Nat) (h:I n s) :
  codeAny (model prog w) A (.compLoop (.ListComp elt [⟨target,iter,ifs,0⟩] scope pos) 0 it acc env) R s:=by
 refine codeAny_loop rfl I (λn s hI=>?_) n h;show wpAny _ A ((compTurn (.ListComp elt [⟨target,iter,ifs,0⟩] scope pos) 0 it acc env).onRaise (λx=>do noteFrame x env;theTreesLotGoes x)) _ _ s;refine wpAny_noted ?_;rw[compTurn_list];refine wpAny_bind (wpAny_standAt (wpAny_bind (wpAny_mono (turn n s hI) (λr s₁ h₁=>?_) λ_ _ h'=>h'.elim)))
 cases r with
 |none=>exact wpAny_pure h₁
 |some v=>
  refine wpAny_bind (wpAny_mono h₁ (λ_ s₁' h₁'=>?_) λ_ _ h'=>h'.elim);refine wpAny_bind (wpAny_mono h₁' (λ_ s₂ h₂=>wpAny_bind (wpAny_mono h₂ (λok s₃ h₃=>?_) λ_ _ h'=>h'.elim)) λ_ _ h'=>h'.elim)
  cases ok with
  |false=>exact wpAny_pure ⟨rfl,h₃⟩
  |true=>
   exact wpAny_bind (wpAny_bind (wpAny_mono h₃ (λx s₄ h₄=>wpAny_bind (wpAny_mono h₄ (λ_ s₅ h₅=>wpAny_pure (wpAny_pure ⟨rfl,h₅⟩)) λ_ _ h'=>h'.elim)) λ_ _ h'=>h'.elim))
inductive Capt(X:Cx)(scope:Scope)(cl:List (Str×Addr)):List Str->List Nat->Prop
 |nil:Capt X scope cl [] []
 |cons {x:Str}{j:Nat}{xs:List Str}{js:List Nat} (h1:X.N[j]?=some x) (h2:X.env.kindOf x=some .cell\/X.env.kindOf x=some .free) (h3:cl.lookup x=X.env.cells.lookup x)
  (h4:(relabel scope X.env).names.lookup x=some .cell\/(relabel scope X.env).names.lookup x=some .free) (t:Capt X scope cl xs js):Capt X scope cl (x::xs) (j::js)
theorem Capt.get{X:Cx}{scope:Scope}{cl:List (Str×Addr)}:∀{xs:List Str}{js:List Nat},Capt X scope cl xs js->xs.length=js.length/\∀(i:Nat) (x:Str) (j:Nat),xs[i]?=some x->js[i]?=some j->X.N[j]?=some x/\(X.env.kindOf x=some .cell\/X.env.kindOf x=some .free)/\cl.lookup x=X.env.cells.lookup x /\
  ((relabel scope X.env).names.lookup x=some .cell\/(relabel scope X.env).names.lookup x=some .free)
 |_,_,.nil=>⟨rfl,λi x j h=>by simp at h⟩
 |_,_,.cons h1 h2 h3 h4 t=>⟨by simp[t.get.1],λi x j hx hj=>by
  cases i with
  |zero=>simp at hx hj;subst hx hj;exact⟨h1,h2,h3,h4⟩
  |succ i=>exact t.get.2 i x j (by simpa using hx) (by simpa using hj)⟩
inductive SubC(X:Cx):List (Str×Addr)->Prop
 |nil:SubC X []
 |cons {x:Str}{c:Addr}{cl:List (Str×Addr)} (h:X.env.cells.lookup x=some c) (t:SubC X cl):SubC X ((x,c)::cl)
theorem SubC.of{X:Cx}:∀{cl:List (Str×Addr)},SubC X cl->∀x c,cl.lookup x=some c->X.env.cells.lookup x=some c
 |_,.nil,x,c,h=>by simp at h
 |_,.cons (x:=y) (c:=d) h0 t,x,c,h=>by
  rw[List.lookup_cons]at h
  cases e:x == y with
  |true=>
   rw[e]at h;have:x=y:=by simpa using e
   subst this;rw[h0];simpa using h
  |false=>rw[e]at h;exact t.of x c (by simpa using h)
def yy(X:Cx)(N':List Str)(scope:Scope)(cl:List (Str×Addr))(C:Addr)(fp:List Addr)(s2:Shared)(H2:Hp):Cx where
 prog:=X.prog
 w:=X.w
 K:=X.K
 mg:=X.mg
 base:=X.base
 A:=X.A
 N:=N'
 s₀:=s2
 H₀:=H2
 env:=compEnvC scope cl C X.env
 outer:=X.stack
 stack:=X.stack
 ex:=fp
 fn:=λ_=>false
 calm:=true
 pn:=[]
 xe:=λ_ _=>False
def yw(k:Nat)(js:List Nat)(σ:St):St:=List.replicate k none++js.map λj=>(σ[j]?).join
def PTs(X:Cx)(ifs:List Expr)(t:TT):Prop :=
 ∀(pins:List (Addr×Obj)) (s:Shared) (σ:St) (H:Hp) (Q:Bool->Hp->Prop),Inv X pins σ H s->t σ H Q ->
  wpAny (model X.prog X.w) X.A (forIn ifs true λc r=>if r=true then do let ok <-isTrue c X.env (eval c X.env);pure (ForInStep.yield ok) else pure (ForInStep.yield r)) (TP X pins σ Q) X.xe s
def zvv:TT:=λ_ H Q=>Q true H
theorem zqf{X:Cx}:PTs X [] zvv:=λ_ _ _ H _ I h=>wpAny_tests_nil ⟨H,I,h⟩
theorem zqg{X:Cx}{c:Expr}{t:TT}(hc:PT X c t):PTs X [c] t:=λpins s σ H Q I h=>wpAny_tests_one (hc pins s σ H Q I h)
def zdf(J:It)(D:Addr)(g:TG)(tt:TT)(te:TE)(σ0:St)(H1:Hp)(Q:VK):Prop :=
 ∃W:Nat->Nat->St->Hp->Prop,(∃m,W 0 m σ0 (upd H1 D (.lst [])))/\∀i m σ H,W i m σ H ->
  (J.stop i H/\Q (.ref D) H)\/(J.go i H/\∀x H',J.yld i H x H'->g x σ H' λσ2 H2=>tt σ2 H2 λb H3=>
   if b=true then te σ2 H3 λy H4=>∃ys,H4 D=some (.lst ys)/\ys.length<sizeLine/\∃m',m' < m/\W (i+1) m' σ2 (upd H4 D (.lst (ys ++ [y])))
   else ∃m',m' < m/\W (i+1) m' σ2 H3)
def tLC(k:Nat)(js:List Nat)(wi:TI)(g:TG)(tt:TT)(te:TE):TE:=λσ H Q=>wi σ H λJ H1=>∀D,H1 D=none->zdf J D g tt te (yw k js σ) H1 Q
section
variable {X:Cx}
theorem zr5{N':List Str}{scope:Scope}{cl:List (Str×Addr)}{fp:List Addr}{pins:List (Addr×Obj)}{σ:St}{H2:Hp}{s2:Shared}{C:Addr}(I:Inv X pins σ H2 s2)(hc:X.calm=true)(hkind:scope.kind=.function)(hC:s2.heap.objs.size<=C)
  (hsub:SubC X cl) (hhas:(relabel scope X.env).names.all (λp=>(p.2 != .cell && p.2 != .free) ||(cl.lookup p.1).isSome)=true)
  (hf:∀b∈fp,FpOk X pins H2 b) (ho:∀b∈fp,∃o,s2.heap.get? b=some o/\∀v,o.data ≠ .cell v):(yy X N' scope cl C fp s2 H2).Ok where
 mod:=I.ok.mod
 kind:=hkind
 glob:=I.ok.glob
 blt:=I.ok.blt
 above:=hC
 inj:=λx y c h1 h2=>I.ok.inj x y c (hsub.of x c h1) (hsub.of y c h2)
 has:=λx hx=>by
  have hx:(relabel scope X.env).names.lookup x=some .cell\/(relabel scope X.env).names.lookup x=some .free:=hx;have key:∀k,(relabel scope X.env).names.lookup x=some k->(k=.cell\/k=.free)->∃c,cl.lookup x=some c:=λk hk hkk=>by
   have hm:=PySem.mem_of_lookup hk;have:=List.all_eq_true.mp hhas _ hm;rcases hkk with rfl|rfl <;> exact Option.isSome_iff_exists.mp (by simpa using this)
  rcases hx with hx|hx
  ·exact key _ hx (.inl rfl)
  ·exact key _ hx (.inr rfl)
 cab:=λx c h=>by cases h
 hd:=λ_=>I.ok.hd hc
 frames:=I.ok.frames
 stk:=.inl rfl
 exf:=λb hb=>by
  obtain⟨o,e,_⟩:=ho b hb;obtain⟨f0,f1,f2,f3,f4,f5⟩:=hf b hb;exact⟨Nat.ne_of_lt (Nat.lt_of_lt_of_le (Heap.lt_size e) hC),λx c h=>f4 x c (hsub.of x c h)⟩
 bs:=I.bs
 bsz:=Nat.le_trans I.ok.bsz I.sz
 noex:=λb o e hb=>by
  obtain⟨f0,f1,f2,f3,f4,f5⟩:=hf b hb;rcases f3 with z|z
  ·exact I.ok.noex b o e z
  ·exact absurd (Nat.lt_of_lt_of_le (Heap.lt_size e) (Nat.le_trans I.ok.bsz z)) (Nat.lt_irrefl _)
 exfs:=λb hb z=>by
  obtain⟨f0,f1,f2,f3,f4,f5⟩:=hf b hb;exact(List.mem_cons.mp (I.stkSub b z)).elim f1 f2
 funs:=I.stack
 frf:=I.stkFree
theorem zhi{N' capt:List Str}{k:Nat}{js:List Nat}{scope:Scope}{cl:List (Str×Addr)}{fp:List Addr}{pins:List (Addr×Obj)}{σ:St}{H2:Hp}{s2:Shared}{D C:Addr}{h4:Heap}{t4:Nat}{m:Str->Option Value}(I:Inv X pins σ H2 s2)(ok:(yy X N' scope cl C fp s2 H2).Ok)
  (hD:s2.heap.objs.size<=D) (hC:s2.heap.objs.size<=C) (hDC:D≠C) (keep:∀b o,s2.heap.get? b=some o->h4.get? b=some o) (hns:h4.Ns C m)
  (hl:h4.get? D=some { cls:=.type "list",data:=.seq #[] 0 })
  (hsub:SubC X cl) (hcap:Capt X scope cl capt js) (hN:N'=N'.take k++capt) (hk:k<=N'.length) :
  Inv (yy X N' scope cl C fp s2 H2) [] (yw k js σ) (upd H2 D (.lst [])) { s2 with heap:=h4,toks:=t4 }:=by
 have below:∀b o,s2.heap.get? b=some o->b≠D/\b≠C:=λb o e=>⟨Nat.ne_of_lt (Nat.lt_of_lt_of_le (Heap.lt_size e) hD),Nat.ne_of_lt (Nat.lt_of_lt_of_le (Heap.lt_size e) hC)⟩
 have hlen:N'.length=k+capt.length:=by
  have:=congrArg List.length hN;rw[List.length_append,List.length_take]at this;omega
 refine⟨ok,rfl,I.bare,Un.laid keep hD (I.hok.fresh hD),⟨m,hns,λi x v h1 h2 h3=>?_⟩,λx c h=>?_,?_,λx c h=>?_,λp hp=>absurd (show p∈([]:List (Addr×Obj)) from hp) (by simp),?_,?_⟩
 ·have h1:N'[i]?=some x:=h1;unfold yw at h2
  by_cases hi:i<k
  ·rw[List.getElem?_append_left (by simpa using hi),List.getElem?_replicate]at h2;rw[if_pos hi]at h2
   cases h2
  ·rw[List.getElem?_append_right (by simpa using hi),List.length_replicate,List.getElem?_map]at h2
   have hx:capt[i-k]?=some x:=by
    rw[hN,List.getElem?_append_right (by rw[List.length_take];omega),List.length_take]at h1;rw[show min k N'.length=k by omega]at h1;exact h1
   cases ej:js[i-k]? with
   |none=>rw[ej]at h2;cases h2
   |some j=>
    rw[ej]at h2;have h2':(σ[j]?).join=some v:=Option.some.inj h2;obtain⟨q1,q2,q3,q4⟩:=hcap.get.2 _ _ _ hx ej;have hv:σ[j]?=some (some v):=by
     cases e:σ[j]? with
     |none=>rw[e]at h2';cases h2'
     |some o=>rw[e]at h2';cases o with
      |none=>cases h2'
      |some v'=>simpa using h2'
    obtain⟨m0,hn0,hl0⟩:=I.loc;obtain⟨u,r,l⟩:=hl0 j x v q1 hv (by rcases q2 with z|z;exact .inr (.inl z);exact .inr (.inr z));refine⟨u,r,?_⟩;rcases l with⟨z,_⟩ |⟨_,c,e,o,z1,z2⟩
    ·rcases q2 with q|q <;> · rw[q]at z;cases z
    ·exact .inr ⟨q4,c,q3.trans e,o,keep c o z1,z2⟩
 ·obtain⟨v,o,z1,z2⟩:=I.cell x c (hsub.of x c h);exact⟨v,o,keep c o z1,z2⟩
 ·show upd H2 D (.lst []) C=none;rw[ya (Ne.symm hDC)];exact I.hok.fresh hC
 ·obtain⟨v,o,z1,z2⟩:=I.cell x c (hsub.of x c h);show upd H2 D (.lst []) c=none;rw[ya (below c o z1).1];exact I.freeC x c (hsub.of x c h)
 ·exact I.hok.laid keep hD ⟨Nat.zero_le _,[],0,.nil,hl⟩
 ·show(yw k js σ).length=N'.length;unfold yw;rw[List.length_append,List.length_replicate,List.length_map,hlen,hcap.get.1]
structure ze6(X:Cx)(scope:Scope)(cl:List (Str×Addr))(N' capt:List Str)(k:Nat)(js:List Nat):Prop where
 clos:closureFor scope X.env=pure cl
 cell:∀y∈scope.names,y.2 ≠ .cell
 kind:scope.kind=.function
 names:∀y∈scope.names,y.2=.local->scope.names.lookup y.1=some .local
 sub:SubC X cl
 has:(relabel scope X.env).names.all (λp=>(p.2 != .cell && p.2 != .free) ||(cl.lookup p.1).isSome)=true
 cap:Capt X scope cl capt js
 hN:N'=N'.take k++capt
 hk:k<=N'.length
def LcEnd(X:Cx)(pins:List (Addr×Obj))(σ:St)(Q:VK)(acc:Value)(C:Addr)(r:Result)(s':Shared):Prop :=
 ∃(f:Flow) (D:Addr) (H':Hp) (m:Str->Option Value),r=.ok f/\acc=.ref D/\Inv X pins σ H' s'/\Q (.ref D) H'/\s'.heap.Ns C m/\H' C=none/\C≠X.env.locals/\X.s₀.heap.objs.size<=C/\(∀x c,X.env.cells.lookup x=some c->c≠C)/\∀p∈X.pn++pins,p.1≠C
theorem LcEnd.let_go{pins:List (Addr×Obj)}{σ':St}{H':Hp}{C:Addr}{s'':Shared}{h':Heap}(I:Inv X pins σ' H' s'')(hn:H' C=none)(h1:C≠X.env.locals)(h2:X.s₀.heap.objs.size<=C)(h3:∀x c,X.env.cells.lookup x=some c->c≠C)(h4:∀p∈X.pn++pins,p.1≠C)
  (hs:Heap.SameBut C s''.heap h'):Inv X pins σ' H' { s'' with heap:=h' } :=
 I.turned (t':=s''.toks) (λb o hb e=>(hs.2 b hb).trans e) hn h1 (.inr h2) h3 h4
theorem zhj{elt tg iter:Expr}{ifs:List Expr}{scope:Scope}{pos:Pos}{cl:List (Str×Addr)}{N' capt:List Str}{k:Nat}{js:List Nat}{g:TG}{tt:TT}{te:TE}{J:It}{fp:List Addr}{tn:Nat->Heap->Prop}{it:Addr}
  {pins:List (Addr×Obj)}{σ:St}{H2:Hp}{s2:Shared}{Q:VK}{E:Value->Shared->Prop} (hc:X.calm=true) (L:ze6 X scope cl N' capt k js)
  (hg:∀C fp s2 H2,PG (yy X N' scope cl C fp s2 H2) tg g) (ht:∀C fp s2 H2,PTs (yy X N' scope cl C fp s2 H2) ifs tt) (he:∀C fp s2 H2,PE (yy X N' scope cl C fp s2 H2) elt te)
  (I2:Inv X pins σ H2 s2) (T:zgb X.prog X.w X.K tg J fp it tn) (st2:tn 0 s2.heap) (f2:∀b∈fp,FpOk X pins H2 b) (q:∀D,H2 D=none->zdf J D g tt te (yw k js σ) H2 Q) :
  wpAny (model X.prog X.w) X.A (newList []) (λacc s3=>wpAny (model X.prog X.w) X.A (newFunctionEnv scope X.env.globals cl [] X.env.qual none .none (some X.env)) (λcenv s4=>
   codeAny (model X.prog X.w) X.A (.compStart (.ListComp elt [⟨tg,iter,ifs,0⟩] scope pos) 0 (.ref it) acc { cenv with scope:=relabel scope X.env }) (LcEnd X pins σ Q acc cenv.locals) s4) E s3) E s2:=by
 refine wpAny_newObj_type (wpAny_newFunctionEnv L.cell (by intro y hy;simp at hy) (λh₁ hns₁ hsb₁=>?_) L.kind);dsimp only at hns₁ hsb₁ ⊢;generalize hH2:s2.heap.push { cls:=.type "list",dict:=none,data:=.seq ([]:List Value).toArray }=G at hns₁ hsb₁ ⊢;have hC:G.objs.size=s2.heap.objs.size+1:=by rw[<-hH2,Heap.size_push]
 have hDC:s2.heap.objs.size≠G.objs.size:=by rw[hC];exact Nat.ne_of_lt (Nat.lt_succ_self _)
 have hCle:s2.heap.objs.size<=G.objs.size:=by rw[hC];exact Nat.le_succ _
 have below:∀b,b<s2.heap.objs.size->b≠G.objs.size:=λb hb=>by rw[hC];exact Nat.ne_of_lt (Nat.lt_succ_of_lt hb)
 have keep:∀b o,s2.heap.get? b=some o->h₁.get? b=some o:=λb o e=>hsb₁.extBut b o (below b (Heap.lt_size e)) (Heap.get?_push_of_some _ (hH2 ▸ Heap.get?_push_of_some _ e));have hl:h₁.get? s2.heap.objs.size=some { cls:=.type "list",data:=.seq #[] 0 }:=hsb₁.extBut _ _ hDC (Heap.get?_push_of_some _ (hH2 ▸ Heap.get?_push_size _ rfl));have ho2:=T.obj _ _ st2;have ok:(yy X N' scope cl G.objs.size fp s2 H2).Ok:=zr5 I2 hc L.kind hCle L.sub L.has f2 ho2;generalize hD:s2.heap.objs.size=D at hl hDC ⊢;generalize hCC:G.objs.size=C at hns₁ hsb₁ hDC hC hCle below ok ⊢;have hDle:s2.heap.objs.size<=D:=by rw[hD];exact Nat.le_refl _
 have I4:Inv (yy X N' scope cl C fp s2 H2) [] (yw k js σ) (upd H2 D (.lst [])) { s2 with heap:=h₁,toks:=s2.toks+([]:List (Str×Value)).length } :=
  zhi I2 ok hDle hCle hDC keep hns₁ hl L.sub L.cap L.hN L.hk
 obtain⟨W,⟨m0,w0⟩,turn⟩:=q D (I2.hok.fresh hDle);have tn0:tn 0 h₁:=T.keep _ _ _ st2 λb _ o e=>keep b o e;have fr0:∀b∈fp,upd H2 D (.lst []) b=none:=λb hb=>by
  obtain⟨o,e,_⟩:=ho2 b hb;rw[ya (Nat.ne_of_lt (Nat.lt_of_lt_of_le (Heap.lt_size e) hDle))];exact(f2 b hb).1
 have stat:∀{H':Hp},(∀b∈fp,H' b=none)->∀b∈fp,FpOk (yy X N' scope cl C fp s2 H2) [] H' b:=λhn b hb=>by
  refine⟨hn b hb,(ok.exf b hb).1,ok.exfs b hb,.inl hb,(ok.exf b hb).2,λp hp=>absurd (show p∈([]:List (Addr×Obj)) from hp) (by simp)⟩
 have loop:∀s₃:Shared,s₃ = { s2 with heap:=h₁,toks:=s2.toks+([]:List (Str×Value)).length } ->
   codeAny (model X.prog X.w) X.A (.compLoop (.ListComp elt [⟨tg,iter,ifs,0⟩] scope pos) 0 (.ref it) (.ref D) (compEnvC scope cl C X.env)) (LcEnd X pins σ Q (.ref D) C) s₃:=by
  rintro s₃ rfl;refine zgg (λn s'=>∃i σ' H',Inv (yy X N' scope cl C fp s2 H2) [] σ' H' s'/\tn i s'.heap/\(∀b∈fp,H' b=none)/\W i n σ' H') ?_ m0 ⟨0,_,_,I4,tn0,fr0,w0⟩;intro n s3 zz;refine gg λG zk=>?_;obtain⟨i,σ3,H3,I3,st3,fr3,w3⟩:=zz;refine zk ?_;clear zk;rcases turn i n σ3 H3 w3 with⟨stop,qn⟩ |⟨go,step⟩
  ·refine thn (T.done (yy X N' scope cl C fp s2 H2) rfl rfl rfl rfl i [] s3 σ3 H3 (λ_ _=>False) I3 (stat fr3) st3 stop) λr s4 ⟨hr,J4⟩=>?_;subst hr;obtain⟨m,hn,_⟩:=id J4.loc;have hs:X.s₀.heap.objs.size<=C:=Nat.le_trans I2.sz hCle;refine⟨.next,D,H3,m,rfl,rfl,I2.call' (ch:=fp) J4.os J4.base J4.hok J4.bare (λb hb=>?_),qn,hn,J4.free,λz=>?_,hs,λx c h z=>?_,λp hp z=>?_⟩
   ·obtain⟨f0,f1,f2',f3,f4,f5⟩:=f2 b hb;exact⟨f3,f1,f4,f5⟩
   ·have:=I2.lt;rw[<-z]at this;exact absurd (Nat.lt_of_lt_of_le this hCle) (Nat.lt_irrefl _)
   ·obtain⟨v,o,z1,_⟩:=I2.cell x c h;have:=Heap.lt_size z1;rw[z]at this;exact absurd (Nat.lt_of_lt_of_le this hCle) (Nat.lt_irrefl _)
   ·have:=Heap.lt_size (I2.pin p hp).1;rw[z]at this;exact absurd (Nat.lt_of_lt_of_le this hCle) (Nat.lt_irrefl _)
  ·refine thn (T.item (yy X N' scope cl C fp s2 H2) rfl rfl rfl rfl i [] s3 σ3 H3 (λ_ _=>False) I3 (stat fr3) st3 go) λr s4 ⟨u,hr,h4⟩=>?_;subst hr;refine thn h4 λ_ s5 zr4=>?_;obtain⟨x,H5,I5,r5,y5,st5,fr5⟩:=zr4;have I5':=I5.pinned (stat fr5) (T.obj _ _ st5);refine thn (hg C fp s2 H2 _ s5 σ3 H5 x u _ I5' r5 (step x H5 y5)) λ_ s6 zr6=>?_;obtain⟨σ6,H6,I6,q6⟩:=zr6;refine thn (ht C fp s2 H2 _ s6 σ6 H6 _ I6 q6) λok s7 ⟨H7,I7,q7⟩=>?_
   have again:∀{H8:Hp}{s8:Shared},Inv (yy X N' scope cl C fp s2 H2) ([]++za3 fp s5.heap) σ6 H8 s8->(∃m',m' < n/\W (i+1) m' σ6 H8)->∃m,m<n/\∃i σ' H',Inv (yy X N' scope cl C fp s2 H2) [] σ' H' s8/\tn i s8.heap/\(∀b∈fp,H' b=none)/\W i m σ' H':=λ{H8 s8} I8 n8=>by
    obtain⟨m',hm,w8⟩:=n8;refine⟨m',hm,i+1,σ6,H8,I8.unpinned,T.keep _ _ _ st5 λb hb o e=>(I8.pin (b,o) (List.mem_append_right _ (List.mem_append_right _ (wn hb e)))).1,λb hb=>?_,w8⟩;obtain⟨o,e,d⟩:=T.obj _ _ st5 b hb;exact(I8.pin (b,o) (List.mem_append_right _ (List.mem_append_right _ (wn hb e)))).2.1
   cases ok with
   |false=>
    rw[if_neg Bool.false_ne_true]at q7;exact again I7 q7
   |true=>
    rw[if_pos rfl]at q7;refine thn (he C fp s2 H2 _ s7 σ6 H7 _ I7 q7) λy s8 zr19=>?_;obtain⟨v8,H8,I8,r8,q8⟩:=zr19;obtain⟨ys,e8,z8,w8⟩:=q8;refine thn (je (X:=yy X N' scope cl C fp s2 H2) _ s8 σ6 H8 (.ref D) [v8] (.ref D) [y] (λv H=>∃m',m' < n/\W (i+1) m' σ6 H) I8 rfl (.cons r8 .nil) ⟨D,ys,v8,rfl,rfl,e8,z8,w8⟩) λ_ s9 zr21=>?_;obtain⟨v9,H9,I9,_,w9⟩:=zr21;exact again I9 w9
 exact codeAny_compStart_list (loop _ rfl) (T.self _ 0 _ _ _ tn0 (loop _ rfl))
theorem zvw{elt tg iter:Expr}{ifs:List Expr}{scope:Scope}{pos:Pos}{cl:List (Str×Addr)}{N' capt:List Str}{k:Nat}{js:List Nat}{wi:TI}{g:TG}{tt:TT}{te:TE}(hc:X.calm=true)(L:ze6 X scope cl N' capt k js)
  (hi:PI X tg iter wi) (hg:∀C fp s2 H2,PG (yy X N' scope cl C fp s2 H2) tg g) (ht:∀C fp s2 H2,PTs (yy X N' scope cl C fp s2 H2) ifs tt) (he:∀C fp s2 H2,PE (yy X N' scope cl C fp s2 H2) elt te)
  (hs:∀x,foldedSetIterable iter X.env x=pure x:=by intro _;rfl):PE X (.ListComp elt [⟨tg,iter,ifs,0⟩] scope pos) (tLC k js wi g tt te):=by
 intro pins s σ H Q I h;rw[eval_ListComp];refine wpAny_comprehension_free (use:=none) rfl hs L.clos L.kind L.names (thn (hi pins s σ H _ I h) λv s1 h1=>thn h1 λitv s2 h2=>?_);obtain⟨it,fp,tn,J,H2,e,I2,T,st2,f2,q⟩:=h2;subst e;refine thn (zhj (E:=X.xe) hc L hg ht he I2 T st2 f2 q) λacc s3 h3=>thn h3 λcenv s4 h4=>codeAny_mono h4 λr s' hr=>?_;obtain⟨f,D,H',m,rfl,rfl,J',qq,hn,b1,b2,b3,b4,b5⟩:=hr;exact⟨m,hn,λh' hsb=>⟨.ref D,H',LcEnd.let_go J' b1 b2 b3 b4 b5 hsb,rfl,qq⟩⟩
theorem zhk{i:Nat}{x:Str}{elt tg iter:Expr}{ifs:List Expr}{scope:Scope}{pos pos' spos:Pos}{cl:List (Str×Addr)}{N' capt:List Str}{k:Nat}{js:List Nat}{wi:TI}{g:TG}{tt:TT}{te:TE}(hN:X.N.Nodup)(hi':X.N[i]?=some x)(hx:Loc X.env.scope x)(hc:X.calm=true)(L:ze6 X scope cl N' capt k js)
  (hi:PI X tg iter wi) (hg:∀C fp s2 H2,PG (yy X N' scope cl C fp s2 H2) tg g) (ht:∀C fp s2 H2,PTs (yy X N' scope cl C fp s2 H2) ifs tt) (he:∀C fp s2 H2,PE (yy X N' scope cl C fp s2 H2) elt te)
  (hsw:swapsWith (.ListComp elt [⟨tg,iter,ifs,0⟩] scope pos) (some (.Name x pos')) spos.line X.env=pure true:=by rfl)
  (hs:∀x,foldedSetIterable iter X.env x=pure x:=by intro _;rfl) (hf:X.fn x=true\/X.env.scope.names.lookup x=some .local:=by first|exact .inl rfl|exact .inr rfl|assumption):PS X (.Assign [.Name x pos'] (.ListComp elt [⟨tg,iter,ifs,0⟩] scope pos) spos) (zst (tLC k js wi g tt te) (zrv i)):=by
 intro pins s σ H D I h;have h:tLC k js wi g tt te σ H (λv H1=>D.nx (σ.set i (some v)) H1):=h;rw[exec_Assign_Name_used _ _ _ _ hsw];refine wpAny_bind (wpAny_standAt (wpAny_bind ?_));show wpAny _ X.A (do let _ <-comprehension (.ListComp elt [⟨tg,iter,ifs,0⟩] scope pos) scope X.env _ (newList []) false (eval iter X.env) (some (assign (.Name x pos') X.env))) _ _ s;refine wpAny_bind (wpAny_mono (wpAny_comprehension_free (use:=some (assign (.Name x pos') X.env)) (Q:=λ_ s'=>SP X pins D .next s') rfl hs L.clos L.kind L.names
  (thn (hi pins s σ H _ I h) λv s1 h1=>thn h1 λitv s2 h2=>?_)) (λ_ s' hq=>wpAny_pure (wpAny_pure hq)) λ_ _ e=>e)
 obtain⟨it,fp,tn,J,H2,e,I2,T,st2,f2,q⟩:=h2;subst e;refine thn (zhj (E:=X.xe) hc L hg ht he I2 T st2 f2 q) λacc s3 h3=>thn h3 λcenv s4 h4=>codeAny_mono h4 λr s' hr=>?_;obtain⟨f,D',H',m,rfl,rfl,J',qq,hn,b1,b2,b3,b4,b5⟩:=hr;show wpAny _ X.A (assign (.Name x pos') X.env (.ref D')) _ _ _;refine wpAny_assign_Name (zfh (v:=.ref D') J' hN hi' hx rfl (λs'' J'' hsb=>?_) hf);obtain⟨a,hsb,ha⟩:=hsb;have hne:cenv.locals≠a:=by
  rcases ha with z|z
  ·rw[z];exact b2
  ·exact λz'=>b4 x a z z'.symm
 exact⟨m,hn.sameBut hsb hne,λh' hs'=>⟨_,H',LcEnd.let_go J'' b1 b2 b3 b4 b5 hs',qq⟩⟩
end
section
variable {X:Cx}{pins:List (Addr×Obj)}{σ:St}{H:Hp}{s:Shared}
theorem Inv.turnedNew{ch:List Addr}{p:Addr}{o:HO}{h':Heap}{t':Nat}(I:Inv X pins σ H s)(hch:∀b∈ch,FpOk X pins H b)(hp:s.heap.objs.size<=p)
  (k:∀b u,b∉ch->s.heap.get? b=some u->h'.get? b=some u) (new:ObjOk X.prog X.w (upd H p o) h' p o):Inv X pins σ (upd H p o) { s with heap:=h',toks:=t' }:=by
 have hn:=I.hok.fresh hp;have nch:∀b u,H b=some u->b∉ch:=λb u e z=>by rw[(hch b z).1]at e;cases e
 refine I.step (g':=s.gens) (d':=s.drawn) (ch:=ch) (λb hb=>?_) (λb u _ _ hc e _=>k b u hc e) (λb u _ _ hc e _=>⟨u.slots,k b u hc e⟩) (λb u hc e n=>?_) (λb u hc e=>⟨u,k b u hc e⟩)
  (λb xs e=>by rw[ya (yz e hn)];exact e) (λb u xs e=>by rw[ya (yz e hn)];exact e) (λb ps e=>⟨#[],by rw[ya (yz e hn),e];simp⟩) (λm hm=>?_) (λb u e=>?_) I.bare
 ·obtain⟨f0,f1,f2,f3,f4,f5⟩:=hch b hb;exact⟨f3,f1,f4,f5⟩
 ·rw[ya (Nat.ne_of_lt (Nat.lt_of_lt_of_le (Heap.lt_size e) hp))];exact n
 ·obtain⟨o',es,ep,ho,r⟩:=hm;exact⟨o',es,ep,k _ o' (λz=>(hch _ z).2.1 rfl) ho,r⟩
 ·by_cases hb:b=p
  ·subst hb;rw[z9]at e
   cases e;exact new
  ·rw[ya hb]at e;refine(I.hok b u e).stay (λc v hc q=>k c v ?_ q) (λc q=>by rw[ya (yz q hn)];exact q) (λc xs q=>by rw[ya (yz q hn)];exact q) (λc _ _ q=>by rw[ya (yz q hn)];exact q);rcases hc with z|z
   ·rw[z];exact nch b u e
   ·exact nch c _ z
theorem Inv.turnedL{ch:List Addr}{h':Heap}{t':Nat}(I:Inv X pins σ H s)(hch:∀b∈ch,FpOk X pins H b)
  (k:∀b u,b∉ch->s.heap.get? b=some u->h'.get? b=some u):Inv X pins σ H { s with heap:=h',toks:=t' }:=by
 have nch:∀b u,H b=some u->b∉ch:=λb u e z=>by rw[(hch b z).1]at e;cases e
 refine I.step (g':=s.gens) (d':=s.drawn) (ch:=ch) (λb hb=>?_) (λb u _ _ hc e _=>k b u hc e) (λb u _ _ hc e _=>⟨u.slots,k b u hc e⟩) (λb u hc e n=>n) (λb u hc e=>⟨u,k b u hc e⟩)
  (λb xs e=>e) (λb u xs e=>e) (λb ps e=>⟨#[],by rw[e];simp⟩) (λm hm=>?_) (λb u e=>?_) I.bare
 ·obtain⟨f0,f1,f2,f3,f4,f5⟩:=hch b hb;exact⟨f3,f1,f4,f5⟩
 ·obtain⟨o',es,ep,ho,r⟩:=hm;exact⟨o',es,ep,k _ o' (λz=>(hch _ z).2.1 rfl) ho,r⟩
 ·refine(I.hok b u e).stay (λc v hc q=>k c v ?_ q) (λc q=>q) λc xs q=>q;rcases hc with z|z
  ·rw[z];exact nch b u e
  ·exact nch c _ z
end
section
variable {X:Cx}
theorem znt{X:Cx}(hc:X.calm=true):qu X (.builtin "sum") (λxs H Q=>∃(p:Addr) (ns:List Int),xs = [.ref p]/\SqL X.K H p (ns.map V.int)/\Q (.int ns.sum) H):=by
 intro pins s σ H xs us Q I rv h;obtain⟨p,ns,rfl,hq,q⟩:=h;obtain⟨u,rfl,r1⟩:=rv.one
 cases r1;obtain⟨its,rvs,pl,hz⟩:=I.list hq;have hi:=v3 rvs;obtain⟨xs,hxs⟩:=hi.allInts.items;have hl:=pl.isList;have hns:ns=numsOf its:=(hi.numsOf).symm;have hx2:its.toArray.toList=its:=rfl;rw[hxs]at hl;refine sum_intListG (I.ok.hd hc) hl λh' tk t' hk=>⟨.int ns.sum,H,I.kept hk,⟨t',?_⟩,q⟩
 rw[preSum_eq,List.take_of_length_le (by simp)];have:numsOf its=numsOf (intItems xs).toList:=by rw[<-hxs]
 rw[hns,this,nums_intItems]
theorem zmd{bs:List Bool}{its:List Value}(r:Vals (bs.map V.bl) its):(List.range its.toArray.size).any (λi=>bs.getD i true)=bs.any id:=by
 have hl:its.toArray.size=bs.length:=by have:=r.length;simp at this ⊢;omega
 rw[hl];clear hl r;apply Bool.eq_iff_iff.mpr;simp only[List.any_eq_true,List.mem_range,id];constructor
 ·rintro ⟨i,hi,h⟩;simp only[List.getD,List.getElem?_eq_getElem hi,Option.getD_some]at h;exact⟨_,List.getElem_mem hi,h⟩
 ·rintro ⟨b,hb,h⟩;obtain⟨i,hi,e⟩:=List.getElem_of_mem hb;exact⟨i,hi,by simp only[List.getD,List.getElem?_eq_getElem hi,Option.getD_some,e];exact h⟩
theorem znu{bs:List Bool}{its:List Value}(r:Vals (bs.map V.bl) its)(i:Nat)(v:Value)(h:its.toArray[i]?=some v):v=.bool (bs.getD i true):=by
 have h':its[i]?=some v:=by simpa using h
 have hi:i<its.length:=(List.getElem?_eq_some_iff.mp h').1;have hb:i<bs.length:=by have:=r.length;simp at this;omega
 obtain⟨u,hu,ru⟩:=r.get (i:=i) (x:=.bl bs[i]) (by simp[hb]);rw[h']at hu
 cases hu;have ru:v=.bool bs[i]:=ru;rw[ru];simp[List.getD,hb]
theorem zme{A:Around}{E:Value->Shared->Prop}{s:Shared}{l:Addr}{its:Array Value}{Q:Value->Shared->Prop}{prog:Program}{w:World}(hl:s.heap.IsList l its)
  (h:∀s2:Shared,s2 = { s with heap:=s.heap.push { cls:=.type "list_iterator",data:=.fields #[.ref l,.int 0 0] } } ->
   (s2.heap.IsListIter s.heap.objs.size l 0/\s2.heap.IsList l its)->l≠s.heap.objs.size->Q (.ref s.heap.objs.size) s2) :
  wpAny (model prog w) A (pyIter (.ref l)) Q E s:=by
 have hlt:l<s.heap.objs.size:=by obtain⟨_,e,_⟩:=hl;exact Heap.lt_size e
 exact wpAny_pyIter_list hl (h _ rfl ⟨⟨_,Heap.get?_push_size _ rfl,rfl,rfl⟩,hl.push _⟩ (Nat.ne_of_lt hlt))
theorem znv(hc:X.calm=true):qu X (.builtin "any") (λxs H Q=>∃(p:Addr) (bs:List Bool),xs = [.ref p]/\SqL X.K H p (bs.map V.bl)/\Q (.bl (bs.any id)) H):=by
 intro pins s σ H xs us Q I rv h;obtain⟨p,bs,rfl,hq,q⟩:=h;obtain⟨u,rfl,r1⟩:=rv.one
 cases r1;obtain⟨its,rvs,pl,hz⟩:=I.list hq;refine call_any_walk (zme pl.isList λs2 e st hne=>?_);subst e;refine⟨_,_,_,_,_,_,λi=>bs.getD i true,rfl,Walks.list (A:=X.A.in1) (I.ok.hd hc) _ p hne its.toArray,st,λi v s Q E hP hQ=>?_,λh' tk hk=>?_⟩
 ·rw[znu rvs i v hP];exact wpAny_truthy_bool hQ
 ·rw[zmd rvs];refine⟨.bl (bs.any id),H,I.kept (λb o e=>hk b o (λz=>?_) (Heap.get?_push_of_some _ e)),rfl,q⟩;rw[List.mem_singleton.mp z]at e;exact Nat.lt_irrefl _ (Heap.lt_size e)
def zvx(i j:Int):Prop:=0<j/\j<10000000000000000000000000000000000000000000000000000000000000
theorem zhl:OpR X (binaryOp .FloorDiv) (rI zvx λi j=>.int (i / j)):=opI λi j _ _ _ _ _ hc q=>by
 have h0:j≠0:=by have:=hc.1;omega
 have e:i.fdiv j=i / j:=Int.fdiv_eq_ediv_of_nonneg i (by have:=hc.1;omega);refine floordiv_int h0 (by rw[e];exact q) (.inl (PyProof.noPylong_of_log2 ?_));have h1:j.natAbs<2 ^ 400:=Nat.lt_of_lt_of_le (show j.natAbs<10000000000000000000000000000000000000000000000000000000000000 by have h1:=hc.1;have h2:=hc.2;omega) (by decide +kernel);have h2:j.natAbs≠0:=by omega
 exact Nat.lt_of_lt_of_le ((Nat.log2_lt h2).mpr h1) (by decide)
end
def yg(P:Program)(w:World)(K:PySem.W.Frag)(mg:Str->Option Value)(base:Heap)(k:Nat)(x:Str)(ps:List Str)(sp:Sp):Prop :=
 ∃f fd,FnOk P w K mg base CX0 k f fd ps sp/\Binds K fd ps []/\PySem.W.keepIn K (.ref f)=true/\mg x=some (.ref f)
theorem zbl{X:Cx}{k k':Nat}{x:Str}{ps:List Str}{sp:Sp}{e:Expr}{es:List Expr}{t:TA}{p pos:Pos}(C:yg X.prog X.w X.K X.mg X.base k x ps sp)(hr:Room k' X.A)(hg:Gl X x)(ha:PA X (e::es) t)(hk:k<=k':=by decide)
  (hdb:(x ==("__debug__" : Str))=false:=by decide) (he:starEach (e::es) X.env=(false,eval e X.env)::starEach es X.env:=by rfl) (hpl:(backTo pos (starEach es X.env)).any (·.1)=false:=by rfl) :
  PE X (.Call (.Name x p) (e::es) [] pos) (znp sp [] E0 t):=by
 intro pins s σ H Q I h;obtain⟨f,fd,F,b,kp,m⟩:=C;exact zp9 F (hr.mono hk) hg m kp b .nil zr0 ha hdb he hpl pins s σ H Q I h
def But(p:Addr)(H H':Hp):Prop:=∀b o,b≠p->H b=some o->H' b=some o
theorem But.trans{p:Addr}{H H1 H2:Hp}(a:But p H H1)(b:But p H1 H2):But p H H2:=λc o n h=>b c o n (a c o n h)
theorem But.of_same{p:Addr}{H H':Hp}(h:Same H H'):But p H H':=λb o _ q=>h b o q
theorem But.write{p:Addr}{H:Hp}{o:HO}:But p H (upd H p o):=λb u n q=>by rw[ya n];exact q
theorem Same.but{p:Addr}{H H1 H2:Hp}(a:Same H H1)(hp:H p=none)(b:But p H1 H2):Same H H2:=λc o h=>b c o (yz h hp) (a c o h)
theorem yk{H:Hp}{p:Addr}(h:H p=none)(o:HO):Same H (upd H p o):=λb u q=>by rw[ya (yz q h)];exact q
def Pen(H:Hp)(p:Addr):Prop:=∃a b c:Int,H p=some (.lst [.int a,.int b,.int c])
theorem zvy{n:Nat}(h:n<=10000):n<sizeLine:=Nat.lt_of_le_of_lt h (by decide)
theorem ztf{n:Nat}(h:n<=10000):n<=sizeLine:=Nat.le_of_lt (zvy h)
theorem ztg{α:Type}{xs:List α}{k:Int}(h0:0<=k)(h1:k<xs.length):∃v,atI xs k=some v/\xs[k.toNat]?=some v:=by
 have hk:k.toNat<xs.length:=by omega
 have ek:k=((k.toNat:Nat):Int):=by omega
 have q:atI xs ((k.toNat:Nat):Int)=some xs[k.toNat]:=zal (List.getElem?_eq_getElem hk);rw[<-ek]at q;exact⟨_,q,List.getElem?_eq_getElem hk⟩
section
variable {prog:Program}{w:World}{A:Around}{E:Value->Shared->Prop}{s:Shared}
theorem zi7{it t:Addr}{i:Nat}{xs:Array Value}{x:Value}{Q:Value->Shared->Prop}(hi:s.heap.IsTupleIter it t i)(ht:s.heap.IsTuple t xs)(hx:xs[i]?=some x)
  (q:∀h',h'.IsTupleIter it t (i+1)->Heap.SameBut it s.heap h'->Q x { s with heap:=h' }):wpAny (model prog w) A (Builtin.SmallTypes.nextOf (.ref it)) Q E s:=by
 obtain⟨oi,e1,c1,d1⟩:=id hi;obtain⟨ot,e2,c2,n2,d2⟩:=id ht;unfold Builtin.SmallTypes.nextOf;refine wpAny_bind (wpAny_callSpecial?_slot (name:=Str.ofString "__next__") hi.typeIs F.slot_tuple_iterator_next (wpAny_call_entry F.slot_tuple_iterator_next hi.typeIs F.entry_tuple_iterator_next (show wpAny _ _ (field (.ref it) 0 >>= _) _ _ s from wpAny_bind (wpAny_field e1 d1 (x:=.ref t) rfl ?_)) (F.args_tuple_iterator_next_1 _)));show wpAny _ _ (if (Value.ref t == Value.none)=true then _ else _) _ _ s;rw[if_neg (λz:(Value.ref t == Value.none)=true=>Bool.false_ne_true z)];refine(show wpAny _ _ (field (.ref it) 1 >>= _) _ _ s from wpAny_bind (wpAny_field e1 d1 (x:=.int i 0) rfl (show wpAny _ _ (seqItems? (.ref t) >>= _) _ _ s from wpAny_bind (wpAny_seqItems e2 d2 ?_))));simp only[hx,Int.toNat_natCast];refine wpAny_bind (wpAny_setField e1 d1 (by simp) (wpAny_pure ⟨x,rfl,wpAny_pure (q _ ⟨_,Heap.get?_update_self _ e1 (Obj.isFreed_of_fields (Obj.data_mapFields d1 _)),(Obj.cls_mapFields ..).trans c1,?_⟩ (Heap.SameBut.update ..))⟩));rw[Obj.data_mapFields d1];simp[rawInt]
theorem zmf{it t:Addr}{i:Nat}{xs:Array Value}{Q:Value->Shared->Prop}(hh:A.handled=none)(hi:s.heap.IsTupleIter it t i)(ht:s.heap.IsTuple t xs)(hx:xs[i]?=none)
  (q:∀h' e,Heap.ExtBut it s.heap h'->(∃o,h'.get? e=some o/\o.cls=.type "StopIteration")->E (.ref e) { s with heap:=h' }):wpAny (model prog w) A (Builtin.SmallTypes.nextOf (.ref it)) Q E s:=by
 obtain⟨oi,e1,c1,d1⟩:=id hi;obtain⟨ot,e2,c2,n2,d2⟩:=id ht;unfold Builtin.SmallTypes.nextOf;refine wpAny_bind (wpAny_callSpecial?_slot (name:=Str.ofString "__next__") hi.typeIs F.slot_tuple_iterator_next (wpAny_call_entry F.slot_tuple_iterator_next hi.typeIs F.entry_tuple_iterator_next (show wpAny _ _ (field (.ref it) 0 >>= _) _ _ s from wpAny_bind (wpAny_field e1 d1 (x:=.ref t) rfl ?_)) (F.args_tuple_iterator_next_1 _)));show wpAny _ _ (if (Value.ref t == Value.none)=true then _ else _) _ _ s;rw[if_neg (λz:(Value.ref t == Value.none)=true=>Bool.false_ne_true z)];refine(show wpAny _ _ (field (.ref it) 1 >>= _) _ _ s from wpAny_bind (wpAny_field e1 d1 (x:=.int i 0) rfl (show wpAny _ _ (seqItems? (.ref t) >>= _) _ _ s from wpAny_bind (wpAny_seqItems e2 d2 ?_))));simp only[hx,Int.toNat_natCast];refine wpAny_bind (wpAny_rule (wpAny_bind (wpAny_setField e1 d1 (by simp) (show wpAny _ _ (newExc (.type "StopIteration") [] >>= _) _ _ _ from wpAny_bind ?_))));simp only[newTuple,newExc];refine wpAny_bind (wpAny_newObj_type (wpAny_bind (m:=firstArgMember _ _) (wpAny_of_eq (a:=Value.none) (by first|rfl |(simp only[firstArgMember];rfl)) (wpAny_newObj_type ?_ (by size_fits)))) (by size_fits));simp only[raiseNew];refine wpAny_bind (wpAny_handled ?_)
 first |(rw[hh]) |(rw[show A.in1.handled=none from hh])
 exact wpAny_bind (wpAny_pure (wpAny_throw (q _ _ (((Heap.SameBut.update ..).extBut.push _).push _) ⟨_,Heap.get?_push_size _ rfl,rfl⟩)))
end
def zIt(b:Bool)(h:Heap)(it l:Addr)(i:Nat):Prop:=if b=true then h.IsTupleIter it l i else h.IsListIter it l i
def zSq(b:Bool)(h:Heap)(l:Addr)(xs:Array Value):Prop:=if b=true then h.IsTuple l xs else h.IsList l xs
def zOb(b:Bool)(l:Addr):Obj:={ cls:=.type (if b=true then "tuple_iterator" else "list_iterator"),data:=.fields #[.ref l,.int 0 0] }
theorem zIt.at{b:Bool}{h h':Heap}{it l:Addr}{i:Nat}(x:zIt b h it l i)(e:∀o,h.get? it=some o->h'.get? it=some o):zIt b h' it l i:=by
 cases b
 ·exact Heap.IsListIter.at (show h.IsListIter it l i from x) e
 ·exact Heap.IsTupleIter.at (show h.IsTupleIter it l i from x) e
theorem zIt.but{b:Bool}{h h':Heap}{it l c:Addr}{i:Nat}(x:zIt b h it l i)(e:Heap.ExtBut c h h')(n:it≠c):zIt b h' it l i:=x.at λo q=>e it o n q
theorem zSq.but{b:Bool}{h h':Heap}{l c:Addr}{xs:Array Value}(x:zSq b h l xs)(e:Heap.ExtBut c h h')(n:l≠c):zSq b h' l xs:=by
 cases b
 ·exact Heap.IsList.extBut (show h.IsList l xs from x) e n
 ·exact Heap.IsTuple.extBut (show h.IsTuple l xs from x) e n
theorem zSq.push{b:Bool}{h:Heap}{l:Addr}{xs:Array Value}(x:zSq b h l xs)(o:Obj):zSq b (h.push o) l xs:=by
 cases b
 ·exact Heap.IsList.push (show h.IsList l xs from x) o
 ·exact Heap.IsTuple.push (show h.IsTuple l xs from x) o
theorem zSq.lt{b:Bool}{h:Heap}{l:Addr}{xs:Array Value}(x:zSq b h l xs):l<h.objs.size:=by
 cases b
 ·obtain⟨o,e,_⟩:=(show h.IsList l xs from x)
  exact Heap.lt_size e
 ·obtain⟨o,e,_⟩:=(show h.IsTuple l xs from x)
  exact Heap.lt_size e
theorem zIt.own{b:Bool}{h:Heap}{it l:Addr}{i:Nat}(x:zIt b h it l i):∃o,h.get? it=some o/\∀v,o.data ≠ .cell v:=by
 cases b
 ·obtain⟨o,e,c,d⟩:=(show h.IsListIter it l i from x)
  exact⟨o,e,λv q=>by rw[d]at q;cases q⟩
 ·obtain⟨o,e,c,d⟩:=(show h.IsTupleIter it l i from x)
  exact⟨o,e,λv q=>by rw[d]at q;cases q⟩
section
variable {prog:Program}{w:World}{A:Around}{E:Value->Shared->Prop}{s:Shared}
theorem jm{b:Bool}{it l:Addr}{i:Nat}{xs:Array Value}{x:Value}{Q:Value->Shared->Prop}(hi:zIt b s.heap it l i)(hl:zSq b s.heap l xs)(hx:xs[i]?=some x)
  (q:∀h',zIt b h' it l (i+1)->Heap.SameBut it s.heap h'->Q x { s with heap:=h' }):wpAny (model prog w) A (Builtin.SmallTypes.nextOf (.ref it)) Q E s:=by
 cases b
 ·exact wpAny_nextOf_list_item hi hl hx q
 ·exact zi7 hi hl hx q
theorem zan{b:Bool}{it l:Addr}{i:Nat}{xs:Array Value}{Q:Value->Shared->Prop}(hh:A.handled=none)(hi:zIt b s.heap it l i)(hl:zSq b s.heap l xs)(hx:xs[i]?=none)
  (q:∀h' e,Heap.ExtBut it s.heap h'->(∃o,h'.get? e=some o/\o.cls=.type "StopIteration")->E (.ref e) { s with heap:=h' }):wpAny (model prog w) A (Builtin.SmallTypes.nextOf (.ref it)) Q E s:=by
 cases b
 ·exact wpAny_nextOf_list_end hh hi hl hx q
 ·exact zmf hh hi hl hx q
theorem zhm{b:Bool}{l:Addr}{xs:Array Value}(hl:zSq b s.heap l xs){Q:Value->Shared->Prop}(q:Q (.ref s.heap.objs.size) { s with heap:=s.heap.push (zOb b l) }):wpAny (model prog w) A (pyIter (.ref l)) Q E s:=by
 cases b
 ·exact wpAny_pyIter_list hl q
 ·exact wpAny_pyIter_tuple hl q
theorem zmg{b1 b2:Bool}{z TI TO i1 i2 l1 l2:Addr}{k1 k2:Nat}{xs ys:Array Value}{x y a b:Value}{Q:Value->Shared->Prop}(D:ZipApart z TI TO i1 i2 l1 l2)(hz:IsZip s.heap z TI TO .none)(hI:IsPair s.heap TI (.ref i1) (.ref i2))(hO:IsPair s.heap TO a b)
  (h1:zIt b1 s.heap i1 l1 k1) (h2:zIt b2 s.heap i2 l2 k2) (q1:zSq b1 s.heap l1 xs) (q2:zSq b2 s.heap l2 ys) (hx:xs[k1]?=some x) (hy:ys[k2]?=some y)
  (q:∀h',IsZip h' z TI TO (rawInt s.heap.objs.size)->IsPair h' TO x y->zIt b1 h' i1 l1 (k1+1)->zIt b2 h' i2 l2 (k2+1)->IsPair h' s.heap.objs.size x y->h'.objs.size=s.heap.objs.size+1 ->
   (∀c o,c≠z->c≠TO->c≠i1->c≠i2->s.heap.get? c=some o->h'.get? c=some o)->Q (.ref s.heap.objs.size) { s with heap:=h' }) :
  wpAny (model prog w) A (Builtin.«zip.__next__» ⟨[.ref z],[]⟩) (λfin s'=>∃v,fin=.done (.ret v)/\Q v s') E s:=by
 refine(show wpAny _ _ (field (.ref z) 2 >>= _) _ _ _ from wpAny_bind (wpAny_field hz rfl (x:=.bool false) rfl (show wpAny _ _ (field (.ref z) 3 >>= _) _ _ _ from wpAny_bind (wpAny_field hz rfl (x:=.ref TI) rfl (wpAny_bind (wpAny_seqItems hI rfl (show wpAny _ _ (Builtin.SmallTypes.ownedTupleIsFree (.ref z) >>= _) _ _ _ from wpAny_bind ?_)))))));unfold Builtin.SmallTypes.ownedTupleIsFree;refine wpAny_bind (wpAny_field hz rfl (x:=.none) rfl (wpAny_pure ?_));simp only[if_true];refine wpAny_bind (wpAny_rule (wpAny_bind (wpAny_field hz rfl (x:=.ref TO) rfl (wpAny_bind (wpAny_setField_rec hz (by simp) λg1 z1 s1=>wpAny_bind ?_)))))
 replace z1:IsZip g1 z TI TO .ellipsis:=z1
 simp only[List.zipIdx_nil,List.zipIdx_cons,List.forIn_nil,List.forIn_cons];refine wpAny_bind (wpAny_bind (wpAny_onRaise (show wpAny _ _ (Builtin.SmallTypes.nextOf (.ref i1) >>= _) _ _ _ from wpAny_bind (jm (h1.but s1.extBut D.i1z) (q1.but s1.extBut D.l1z) hx λg2 t2 s2=>wpAny_pure ?_))));have O2:IsPair g2 TO a b:=s2.extBut _ _ D.TOi1 (s1.extBut _ _ D.TOz hO);refine wpAny_bind (wpAny_seqItems O2 rfl (wpAny_bind (wpAny_updateSeq_pair O2 λg3 O3 s3=>wpAny_bind (wpAny_letGo (wpAny_pure ?_)))))
 replace O3:IsPair g3 TO x b:=O3
 refine wpAny_bind (wpAny_bind (wpAny_onRaise (show wpAny _ _ (Builtin.SmallTypes.nextOf (.ref i2) >>= _) _ _ _ from wpAny_bind (jm (((h2.but s1.extBut D.i2z).but s2.extBut D.i12.symm).but s3.extBut D.TOi2.symm) (((q2.but s1.extBut D.l2z).but s2.extBut D.l2i1).but s3.extBut D.l2TO) hy λg4 t4 s4=>wpAny_pure ?_))));have O4:IsPair g4 TO x b:=s4.extBut _ _ D.TOi2 O3;refine wpAny_bind (wpAny_seqItems O4 rfl (wpAny_bind (wpAny_updateSeq_pair O4 λg5 O5 s5=>wpAny_bind (wpAny_letGo (wpAny_pure (wpAny_pure ?_))))))
 replace O5:IsPair g5 TO x y:=O5
 refine wpAny_bind (wpAny_seqItems O5 rfl (wpAny_bind (wpAny_newTuple ?_)));have sz:g5.objs.size=s.heap.objs.size:=by rw[s5.1,s4.1,s3.1,s2.1,s1.1]
 have z5:IsZip g5 z TI TO .ellipsis:=s5.extBut _ _ D.TOz.symm (s4.extBut _ _ D.i2z.symm (s3.extBut _ _ D.TOz.symm (s2.extBut _ _ D.i1z.symm z1)));have k5:∀c o,c≠z->c≠TO->c≠i1->c≠i2->s.heap.get? c=some o->g5.get? c=some o:=λc o n1 n2 n3 n4 e=>s5.extBut _ _ n2 (s4.extBut _ _ n4 (s3.extBut _ _ n2 (s2.extBut _ _ n3 (s1.extBut _ _ n1 e))));have t5:zIt b1 g5 i1 l1 (k1+1):=((t2.but s3.extBut D.TOi1.symm).but s4.extBut D.i12).but s5.extBut D.TOi1.symm;have u5:zIt b2 g5 i2 l2 (k2+1):=t4.but s5.extBut D.TOi2.symm;have lz:z<g5.objs.size:=Heap.lt_size z5;refine(show wpAny _ _ (Builtin.SmallTypes.ownedTupleHandOut (.ref z) (.ref g5.objs.size) >>= _) _ _ _ from wpAny_bind ?_);unfold Builtin.SmallTypes.ownedTupleHandOut;have z6:IsZip (g5.push { cls:=.type "tuple",data:=.seq #[x,y] }) z TI TO .ellipsis:=Heap.get?_push_of_some _ z5;refine wpAny_bind (wpAny_setField_rec z6 (by simp) λg7 z7 s7=>?_)
 replace z7:IsZip g7 z TI TO (rawInt g5.objs.size):=z7
 refine wpAny_setField_rec z7 (by simp) λg8 z8 s8=>?_
 replace z8:IsZip g8 z TI TO (rawInt g5.objs.size):=z8
 have up:∀c o,c≠z->g5.get? c=some o->g8.get? c=some o:=λc o n e=>s8.extBut _ _ n (s7.extBut _ _ n (Heap.get?_push_of_some _ e));have p8:IsPair g8 g5.objs.size x y:=s8.extBut _ _ (Nat.ne_of_gt lz) (s7.extBut _ _ (Nat.ne_of_gt lz) (Heap.get?_push_size _ rfl));have n8:g8.objs.size=g5.objs.size+1:=by rw[s8.1,s7.1,Heap.size_push]
 rw[sz]at z8 p8 n8;refine wpAny_pure ⟨_,rfl,(show Q (.ref g5.objs.size) _ from ?_)⟩;rw[sz];exact q g8 z8 (up _ _ D.TOz O5) (t5.at λo e=>up _ o D.i1z e) (u5.at λo e=>up _ o D.i2z e) p8 n8 λc o n1 n2 n3 n4 e=>up c o n1 (k5 c o n1 n2 n3 n4 e)
theorem znw{b1 b2:Bool}{z TI TO i1 i2 l1 l2:Addr}{k1 k2:Nat}{xs ys:Array Value}{a b:Value}{Q:Fin->Shared->Prop}(hh:A.handled=none)(D:ZipApart z TI TO i1 i2 l1 l2)(hz:IsZip s.heap z TI TO .none)(hI:IsPair s.heap TI (.ref i1) (.ref i2))(hO:IsPair s.heap TO a b)
  (h1:zIt b1 s.heap i1 l1 k1) (h2:zIt b2 s.heap i2 l2 k2) (q1:zSq b1 s.heap l1 xs) (q2:zSq b2 s.heap l2 ys) (he:xs[k1]?=none\/ys[k2]?=none)
  (q:∀h' e,(∀c o,c≠z->c≠TO->c≠i1->c≠i2->s.heap.get? c=some o->h'.get? c=some o)->(∃o,h'.get? e=some o/\o.cls=.type "StopIteration")->E (.ref e) { s with heap:=h' }) :
  wpAny (model prog w) A (Builtin.«zip.__next__» ⟨[.ref z],[]⟩) Q E s:=by
 refine(show wpAny _ _ (field (.ref z) 2 >>= _) _ _ _ from wpAny_bind (wpAny_field hz rfl (x:=.bool false) rfl (show wpAny _ _ (field (.ref z) 3 >>= _) _ _ _ from wpAny_bind (wpAny_field hz rfl (x:=.ref TI) rfl (wpAny_bind (wpAny_seqItems hI rfl (show wpAny _ _ (Builtin.SmallTypes.ownedTupleIsFree (.ref z) >>= _) _ _ _ from wpAny_bind ?_)))))));unfold Builtin.SmallTypes.ownedTupleIsFree;refine wpAny_bind (wpAny_field hz rfl (x:=.none) rfl (wpAny_pure ?_));simp only[if_true];refine wpAny_bind (wpAny_rule (wpAny_bind (wpAny_field hz rfl (x:=.ref TO) rfl (wpAny_bind (wpAny_setField_rec hz (by simp) λg1 z1 s1=>wpAny_bind ?_)))))
 replace z1:IsZip g1 z TI TO .ellipsis:=z1
 simp only[List.zipIdx_nil,List.zipIdx_cons,List.forIn_nil,List.forIn_cons]
 cases hx:xs[k1]? with
 |none=>
  refine wpAny_bind (wpAny_bind (wpAny_onRaise (show wpAny _ _ (Builtin.SmallTypes.nextOf (.ref i1) >>= _) _ _ _ from wpAny_bind (zan hh (h1.but s1.extBut D.i1z) (q1.but s1.extBut D.l1z) hx λg2 e s2 ⟨oe,ee,ce⟩=>?_))));have z2:IsZip g2 z TI TO .ellipsis:=s2 _ _ D.i1z.symm z1;have nez:e≠z:=λt=>by subst t;rw[z2]at ee;cases ee;simp at ce
  exact wpAny_setField_rec z2 (by simp) λg3 _ s3=>q g3 e (λc o n1 _ n3 _ t=>s3.extBut _ _ n1 (s2 _ _ n3 (s1.extBut _ _ n1 t))) ⟨oe,s3.extBut _ _ nez ee,ce⟩
 |some x=>
  have hy:ys[k2]?=none:=he.resolve_left (by rw[hx];exact λt=>nomatch t);refine wpAny_bind (wpAny_bind (wpAny_onRaise (show wpAny _ _ (Builtin.SmallTypes.nextOf (.ref i1) >>= _) _ _ _ from wpAny_bind (jm (h1.but s1.extBut D.i1z) (q1.but s1.extBut D.l1z) hx λg2 t2 s2=>wpAny_pure ?_))));have O2:IsPair g2 TO a b:=s2.extBut _ _ D.TOi1 (s1.extBut _ _ D.TOz hO);refine wpAny_bind (wpAny_seqItems O2 rfl (wpAny_bind (wpAny_updateSeq_pair O2 λg3 O3 s3=>wpAny_bind (wpAny_letGo (wpAny_pure ?_)))));refine wpAny_bind (wpAny_bind (wpAny_onRaise (show wpAny _ _ (Builtin.SmallTypes.nextOf (.ref i2) >>= _) _ _ _ from wpAny_bind (zan hh (((h2.but s1.extBut D.i2z).but s2.extBut D.i12.symm).but s3.extBut D.TOi2.symm) (((q2.but s1.extBut D.l2z).but s2.extBut D.l2i1).but s3.extBut D.l2TO) hy λg4 e s4 ⟨oe,ee,ce⟩=>?_))));have z4:IsZip g4 z TI TO .ellipsis:=s4 _ _ D.i2z.symm (s3.extBut _ _ D.TOz.symm (s2.extBut _ _ D.i1z.symm z1));have nez:e≠z:=λt=>by subst t;rw[z4]at ee;cases ee;simp at ce
  exact wpAny_setField_rec z4 (by simp) λg5 _ s5=>q g5 e (λc o n1 n2 n3 n4 t=>s5.extBut _ _ n1 (s4 _ _ n4 (s3.extBut _ _ n2 (s2.extBut _ _ n3 (s1.extBut _ _ n1 t))))) ⟨oe,s5.extBut _ _ nez ee,ce⟩
theorem zdw{b1 b2:Bool}{z TI TO i1 i2 l1 l2:Addr}{k1 k2:Nat}{xs ys:Array Value}{x y a b:Value}{Q:Option Value->Shared->Prop}(D:ZipApart z TI TO i1 i2 l1 l2)(hz:IsZip s.heap z TI TO .none)(hI:IsPair s.heap TI (.ref i1) (.ref i2))(hO:IsPair s.heap TO a b)
  (h1:zIt b1 s.heap i1 l1 k1) (h2:zIt b2 s.heap i2 l2 k2) (q1:zSq b1 s.heap l1 xs) (q2:zSq b2 s.heap l2 ys) (hx:xs[k1]?=some x) (hy:ys[k2]?=some y)
  (q:∀h',IsZip h' z TI TO (rawInt s.heap.objs.size)->IsPair h' TO x y->zIt b1 h' i1 l1 (k1+1)->zIt b2 h' i2 l2 (k2+1)->IsPair h' s.heap.objs.size x y->h'.objs.size=s.heap.objs.size+1 ->
   (∀c o,c≠z->c≠TO->c≠i1->c≠i2->s.heap.get? c=some o->h'.get? c=some o)->Q (some (.ref s.heap.objs.size)) { s with heap:=h' }):wpAny (model prog w) A (pyNext (.ref z)) Q E s:=by
 have hT:s.TypeIs (.ref z) "zip" :=⟨_,hz,rfl⟩
 unfold pyNext;exact wpAny_bind (wpAny_attempt (wpAny_callSpecial?_slot (name:=Str.ofString "__next__") hT F.slot_zip_next (wpAny_call_entry F.slot_zip_next hT F.entry_zip_next (zmg D hz hI hO h1 h2 q1 q2 hx hy λh' a1 a2 a3 a4 a5 a6 a7=>wpAny_pure (q h' a1 a2 a3 a4 a5 a6 a7)) (F.args_zip_next_1 _))))
theorem ze7{b1 b2:Bool}{z TI TO i1 i2 l1 l2:Addr}{k1 k2:Nat}{xs ys:Array Value}{a b:Value}{Q:Option Value->Shared->Prop}(hh:A.handled=none)(D:ZipApart z TI TO i1 i2 l1 l2)(hz:IsZip s.heap z TI TO .none)(hI:IsPair s.heap TI (.ref i1) (.ref i2))(hO:IsPair s.heap TO a b)
  (h1:zIt b1 s.heap i1 l1 k1) (h2:zIt b2 s.heap i2 l2 k2) (q1:zSq b1 s.heap l1 xs) (q2:zSq b2 s.heap l2 ys) (he:xs[k1]?=none\/ys[k2]?=none)
  (q:∀h',(∀c o,c≠z->c≠TO->c≠i1->c≠i2->s.heap.get? c=some o->h'.get? c=some o)->Q none { s with heap:=h' }):wpAny (model prog w) A (pyNext (.ref z)) Q E s:=by
 have hT:s.TypeIs (.ref z) "zip" :=⟨_,hz,rfl⟩
 unfold pyNext;exact wpAny_bind (wpAny_attempt (wpAny_callSpecial?_slot (name:=Str.ofString "__next__") hT F.slot_zip_next (wpAny_call_entry F.slot_zip_next hT F.entry_zip_next (znw hh D hz hI hO h1 h2 q1 q2 he λh' e k ⟨o,ho,hc⟩=>wpAny_bind (wpAny_isInstance (T := "StopIteration") (b:=true) ⟨o,ho,hc⟩ isSubtype_stop (wpAny_pure (q _ k)))) (F.args_zip_next_1 _))))
end
abbrev zG1(b1:Bool)(h:Heap)(l1:Addr):Heap:=h.push (zOb b1 l1)
abbrev zG2(b1 b2:Bool)(h:Heap)(l1 l2:Addr):Heap:=(zG1 b1 h l1).push (zOb b2 l2)
abbrev zG3(b1 b2:Bool)(h:Heap)(l1 l2:Addr):Heap:=(zG2 b1 b2 h l1 l2).push { cls:=.type "tuple",data:=.seq #[.ref h.objs.size,.ref (zG1 b1 h l1).objs.size] }
abbrev zG4(b1 b2:Bool)(h:Heap)(l1 l2:Addr):Heap:=(zG3 b1 b2 h l1 l2).push { cls:=.type "tuple",data:=.seq #[.none,.none] }
abbrev zG5(b1 b2:Bool)(h:Heap)(l1 l2:Addr):Heap:=(zG4 b1 b2 h l1 l2).push { cls:=.type "zip",data:=.fields #[.none,.bool false,.bool false,.ref (zG2 b1 b2 h l1 l2).objs.size,.ref (zG3 b1 b2 h l1 l2).objs.size] }
theorem znx(b1 b2:Bool)(l1 l2:Addr)(xs ys:Array Value):Meets (Builtin.«zip.__new__» ⟨[.type "zip",.ref l1,.ref l2],[]⟩) (λ_ R s=>zSq b1 s.heap l1 xs/\zSq b2 s.heap l2 ys/\R (.ok (.ret (.ref (zG4 b1 b2 s.heap l1 l2).objs.size))) { s with heap:=zG5 b1 b2 s.heap l1 l2 }) :=
 .of_wp λprog w A R s h=>by
  obtain⟨hp,g,d,tk,os⟩:=s;obtain⟨q1,q2,h⟩:=h;have hsub:=sub_zip;have L1:zSq b1 (Shared.heap ⟨hp,g,d,tk,os⟩) l1 xs:=q1;have L2:zSq b2 (Shared.heap ⟨hp.push (zOb b1 l1),g,d,tk,os⟩) l2 ys:=q2.push _
  wp_walk using zhm L1,zhm L2
  exact⟨_,rfl,h⟩
theorem zmh{prog:Program}{w:World}{A:Around}{E:Value->Shared->Prop}{s:Shared}{b1 b2:Bool}{l1 l2:Addr}{xs ys:Array Value}{Q:Value->Shared->Prop}(q1:zSq b1 s.heap l1 xs)(q2:zSq b2 s.heap l2 ys)
  (h:∀h',IsZip h' (s.heap.objs.size+4) (s.heap.objs.size+2) (s.heap.objs.size+3) .none->IsPair h' (s.heap.objs.size+2) (.ref s.heap.objs.size) (.ref (s.heap.objs.size+1))->IsPair h' (s.heap.objs.size+3) .none .none ->
   zIt b1 h' s.heap.objs.size l1 0->zIt b2 h' (s.heap.objs.size+1) l2 0->(∀c o,s.heap.get? c=some o->h'.get? c=some o)->Q (.ref (s.heap.objs.size+4)) { s with heap:=h' }) :
  wpAny (model prog w) A (call (.type "zip") [.ref l1,.ref l2]) Q E s:=by
 refine callType_new F.called_zip (by decide) (F.typeCall_zip_2 _ _) (F.newCall_zip_2 _ _) (λobj=>F.args_object_init_3 obj _ _) F.entry_zip_new (znx b1 b2 l1 l2 xs ys) ⟨q1,q2,?_⟩;have z1:(zG1 b1 s.heap l1).objs.size=s.heap.objs.size+1:=Heap.size_push ..;have z2:(zG2 b1 b2 s.heap l1 l2).objs.size=s.heap.objs.size+2:=by rw[Heap.size_push,z1]
 have z3:(zG3 b1 b2 s.heap l1 l2).objs.size=s.heap.objs.size+3:=by rw[Heap.size_push,z2]
 have z4:(zG4 b1 b2 s.heap l1 l2).objs.size=s.heap.objs.size+4:=by rw[Heap.size_push,z3]
 have g5:(zG5 b1 b2 s.heap l1 l2).get? (zG4 b1 b2 s.heap l1 l2).objs.size=some _:=Heap.get?_push_size _ rfl;have g4:(zG5 b1 b2 s.heap l1 l2).get? (zG3 b1 b2 s.heap l1 l2).objs.size=some _:=Heap.get?_push_of_some _ (Heap.get?_push_size _ rfl);have g3:(zG5 b1 b2 s.heap l1 l2).get? (zG2 b1 b2 s.heap l1 l2).objs.size=some _:=Heap.get?_push_of_some _ (Heap.get?_push_of_some _ (Heap.get?_push_size _ rfl));have g2:(zG5 b1 b2 s.heap l1 l2).get? (zG1 b1 s.heap l1).objs.size=some (zOb b2 l2):=Heap.get?_push_of_some _ (Heap.get?_push_of_some _ (Heap.get?_push_of_some _ (Heap.get?_push_size _ rfl)));have g1:(zG5 b1 b2 s.heap l1 l2).get? s.heap.objs.size=some (zOb b1 l1):=Heap.get?_push_of_some _ (Heap.get?_push_of_some _ (Heap.get?_push_of_some _ (Heap.get?_push_of_some _ (Heap.get?_push_size _ rfl))));show _/\_;rw[z2,z3,z4]at g5;rw[z1,z2]at g3;rw[z3]at g4;rw[z1]at g2;rw[z4];have i1:zIt b1 (zG5 b1 b2 s.heap l1 l2) s.heap.objs.size l1 0:=by
  cases b1
  ·exact⟨_,g1,rfl,rfl⟩
  ·exact⟨_,g1,rfl,rfl⟩
 have i2:zIt b2 (zG5 b1 b2 s.heap l1 l2) (s.heap.objs.size+1) l2 0:=by
  cases b2
  ·exact⟨_,g2,rfl,rfl⟩
  ·exact⟨_,g2,rfl,rfl⟩
 exact⟨⟨_,g5,rfl⟩,h _ g5 g3 g4 i1 i2 λc o x=>Heap.get?_push_of_some _ (Heap.get?_push_of_some _ (Heap.get?_push_of_some _ (Heap.get?_push_of_some _ (Heap.get?_push_of_some _ x))))⟩
def SqG(b:Bool)(K:PySem.W.Frag)(H:Hp)(a:Addr)(xs:List V):Prop:=if b=true then SqT K H a xs else SqL K H a xs
theorem Inv.sqG{X:Cx}{pins:List (Addr×Obj)}{σ:St}{H:Hp}{s:Shared}{b:Bool}{a:Addr}{xs:List V}(I:Inv X pins σ H s)(h:SqG b X.K H a xs):∃its:List Value,Vals xs its/\zSq b s.heap a its.toArray/\xs.length<=sizeLine:=by
 cases b
 ·obtain⟨its,r,p,z⟩:=I.list (show SqL X.K H a xs from h);exact⟨its,r,p.isList,z⟩
 ·obtain⟨its,r,p,z⟩:=I.tuple (show SqT X.K H a xs from h);exact⟨its,r,p,z⟩
theorem Inv.sqG_inj{X:Cx}{pins:List (Addr×Obj)}{σ:St}{H:Hp}{s:Shared}{b:Bool}{a:Addr}{xs ys:List V}(I:Inv X pins σ H s)(h:SqG b X.K H a xs)(h':SqG b X.K H a ys):xs=ys:=by
 cases b
 ·exact I.list_inj (show SqL X.K H a xs from h) h'
 ·exact I.tuple_inj (show SqT X.K H a xs from h) h'
def Izg(b1 b2:Bool)(K:PySem.W.Frag)(a b:Addr):It :=
 ⟨λi H=>∃xs ys x y,SqG b1 K H a xs/\SqG b2 K H b ys/\xs[i]?=some x/\ys[i]?=some y,λi H v H'=>∃p x y,H p=none/\v=.ref p/\H'=upd H p (.tup [x,y])/\(∀xs,SqG b1 K H a xs->xs[i]?=some x)/\∀ys,SqG b2 K H b ys->ys[i]?=some y,λi H=>∃xs ys,SqG b1 K H a xs/\SqG b2 K H b ys/\(xs.length<=i\/ys.length<=i)⟩
theorem zmi{P:Program}{w:World}{K:PySem.W.Frag}{b1 b2:Bool}{elts:List Expr}{x1}{tpos:Pos}{l1 l2 z TI TO i1 i2:Addr}(D:ZipApart z TI TO i1 i2 l1 l2):
  zgb P w K (.Tuple elts x1 tpos) (Izg b1 b2 K l1 l2) [z,TI,TO,i1,i2] z (λi h=>IsZip h z TI TO .none/\IsPair h TI (.ref i1) (.ref i2)/\(∃a b,IsPair h TO a b)/\zIt b1 h i1 l1 i/\zIt b2 h i2 l2 i) where
 mem:=by simp
 obj:=λi h st b hb=>by
  obtain⟨hz,hTI,⟨a,b',hTO⟩,h1,h2⟩:=st;simp only[List.mem_cons,List.not_mem_nil,or_false]at hb;rcases hb with rfl|rfl|rfl|rfl|rfl
  ·exact⟨_,hz,λv q=>by cases (show Data.fields _=Data.cell v from q)⟩
  ·exact⟨_,hTI,λv q=>by cases (show Data.seq _ _=Data.cell v from q)⟩
  ·exact⟨_,hTO,λv q=>by cases (show Data.seq _ _=Data.cell v from q)⟩
  ·exact h1.own
  ·exact h2.own
 keep:=λi h h' st k=>by
  obtain⟨hz,hTI,⟨a,b',hTO⟩,h1,h2⟩:=st;exact⟨k _ (by simp) _ hz,k _ (by simp) _ hTI,⟨a,b',k _ (by simp) _ hTO⟩,h1.at λo e=>k i1 (by simp) o e,h2.at λo e=>k i2 (by simp) o e⟩
 item:=by
  intro X hP hw hK hc i pins s σ H E I hf st hg;subst hP hw hK;refine gg λG zk=>?_;obtain⟨xs,ys,x,y,hq1,hq2,hx,hy⟩:=hg;obtain⟨hz,hTI,⟨a,b',hTO⟩,h1,h2⟩:=st;obtain⟨its1,rv1,p1,hz1⟩:=I.sqG hq1;obtain⟨its2,rv2,p2,hz2⟩:=I.sqG hq2;obtain⟨u1,hu1,ru1⟩:=rv1.get hx;obtain⟨u2,hu2,ru2⟩:=rv2.get hy;refine zk ?_;clear zk;refine zdw D hz hTI hTO h1 h2 p1 p2 (x:=u1) (y:=u2) (by simpa using hu1) (by simpa using hu2) λh' hz' hTO' h1' h2' hp' hsz hk=>⟨_,rfl,?_⟩
  refine wpAny_letOwnedTupleGo_zip hz' λh'' hz'' hsb=>?_;have ne:s.heap.objs.size≠z:=λq=>by have:=Heap.lt_size hz;rw[<-q]at this;exact Nat.lt_irrefl _ this
  have hp2:IsPair h'' s.heap.objs.size u1 u2:=(hsb.2 _ ne).trans hp';have nb:∀c o,s.heap.get? c=some o->c≠s.heap.objs.size:=λc o e=>Nat.ne_of_lt (Heap.lt_size e);have I1:Inv X pins σ (upd H s.heap.objs.size (.tup [x,y])) { s with heap:=h'',toks:=s.toks }:=by
   refine I.turnedNew (ch:=[z,TI,TO,i1,i2]) hf (Nat.le_refl _) (λb u hb e=>?_) ⟨by simp[sizeLine_eq],[u1,u2],.cons ru1 (.cons ru2 .nil),?_⟩
   ·simp only[List.mem_cons,List.not_mem_nil,or_false,not_or]at hb;exact(hsb.2 b hb.1).trans (hk b u hb.1 hb.2.2.1 hb.2.2.2.1 hb.2.2.2.2 e)
   ·exact⟨_,hp2,rfl,⟨_,rfl⟩,rfl⟩
  refine⟨.ref s.heap.objs.size,_,I1,rfl,⟨_,x,y,I.hok.fresh (Nat.le_refl _),rfl,rfl,λxs' h=>by rw[I.sqG_inj h hq1];exact hx,λys' h=>by rw[I.sqG_inj h hq2];exact hy⟩,⟨hz'',?_,?_,?_,?_⟩,λb hb=>?_⟩
  ·exact(hsb.2 _ D.TIz).trans (hk _ _ D.TIz D.TITO D.TIi1 D.TIi2 hTI)
  ·exact⟨_,_,(hsb.2 _ D.TOz).trans hTO'⟩
  ·exact h1'.at λo e=>(hsb.2 _ D.i1z).trans e
  ·exact h2'.at λo e=>(hsb.2 _ D.i2z).trans e
  ·rw[ya]
   ·exact(hf b hb).1
   ·intro q;subst q;simp only[List.mem_cons,List.not_mem_nil,or_false]at hb;obtain⟨o1,e1,_⟩:=h1.own;obtain⟨o2,e2,_⟩:=h2.own;rcases hb with q|q|q|q|q
    ·exact nb _ _ hz q.symm
    ·exact nb _ _ hTI q.symm
    ·exact nb _ _ hTO q.symm
    ·exact nb _ _ e1 q.symm
    ·exact nb _ _ e2 q.symm
 done:=by
  intro X hP hw hK hc i pins s σ H E I hf st hg;subst hP hw hK;obtain⟨xs,ys,hq1,hq2,hl⟩:=hg;obtain⟨hz,hTI,⟨a,b',hTO⟩,h1,h2⟩:=st;obtain⟨its1,rv1,p1,hz1⟩:=I.sqG hq1;obtain⟨its2,rv2,p2,hz2⟩:=I.sqG hq2;have e1:=rv1.length;have e2:=rv2.length;refine ze7 (I.ok.hd hc) D hz hTI hTO h1 h2 p1 p2 (by rcases hl with q|q;exact .inl (by simp;omega);exact .inr (by simp;omega)) λh' hk=>⟨rfl,?_⟩
  refine I.turnedL (t':=s.toks) (ch:=[z,TI,TO,i1,i2]) hf λb u hb e=>?_;simp only[List.mem_cons,List.not_mem_nil,or_false,not_or]at hb;exact hk b u hb.1 hb.2.2.1 hb.2.2.2.1 hb.2.2.2.2 e
 self:=λ_ _ _ _ _ st h=>wpAny_pyIter_zip st.1 h
section
variable {X:Cx}
theorem zmj{prog:Program}{w:World}{A:Around}{E:Value->Shared->Prop}{s:Shared}{t sl:Addr}{its:Array Value}{vl vu:Value}{lo hi:Option Int}{Q:Value->Shared->Prop}(ht:IsTup s.heap t its)(hs:s.heap.IsSliceOf sl vl vu .none)(pl:IsPart vl lo)(pu:IsPart vu hi)
  (h0:HT.sIx its.size 0 lo=0) (h1:HT.sIx its.size its.size hi=its.size) (h:Q (.ref t) s):wpAny (model prog w) A (getItem (.ref t) (.ref sl)) Q E s:=by
 obtain⟨os,hos,hcs,hds⟩:=id hs;have hTs:s.TypeIs (.ref sl) "slice" :=⟨os,hos,hcs⟩
 unfold getItem
 try with_reducible refine wpAny_holding ?_
 first |(refine wpAny_bind (wpAny_pure ?_))|skip
 refine wpAny_bind (wpAny_sequenceKey ht.typeIs (by decide) (wpAny_bind (wpAny_callSpecial?_slot (name:=Str.ofString "__getitem__") ht.typeIs PyProof.Rows.slot_tuple_getitem (wpAny_call_entry PyProof.Rows.slot_tuple_getitem ht.typeIs entry_tuple_getitem ?_ (args_tuple_getitem _ _)))));refine(show wpAny _ _ (Builtin.Tuple.tupleItemsOf (.ref t) >>= _) _ _ s from wpAny_bind (tupleItemsOf_ ht (wpAny_bind (wpAny_typeOf hTs ?_))));rw[if_pos (by decide)];refine wpAny_bind (HT.sliceApplied_gen hs pl pu ?_);rw[h0,h1];have hy:(((((0:Nat):Int) == 0 && (1:Int) == 1) && (its.size-0 == its.size))=true):=by simp
 show wpAny _ _ (if (((0:Nat):Int) == 0 && (1:Int) == 1 && (its.size-0) == its.size)=true then _ else _) _ _ s;rw[if_pos hy];refine wpAny_bind (m:=Builtin.Tuple.tupleIsExact _) ?_;unfold Builtin.Tuple.tupleIsExact;refine wpAny_bind (wpAny_typeOf ht.typeIs (wpAny_pure ?_));rw[if_pos (by decide)]
 first
  |exact wpAny_bind (wpAny_rule (wpAny_pure ⟨_,rfl,wpAny_pure h⟩))
  |exact wpAny_bind (wpAny_rule (wpAny_bind (wpAny_pure (wpAny_pure ⟨_,rfl,wpAny_pure h⟩))))
  |exact wpAny_bind (wpAny_rule (wpAny_bind (wpAny_pure ⟨_,rfl,wpAny_pure h⟩)))
end
def inB(lo hi:Int):V->Bool
 |.int i=>decide (lo<=i) && decide (i<=hi)
 |_=>false
def zvz:List (Int×Int)->List V->Bool
 |[],[]=>true
 |b::bs,x::xs=>inB b.1 b.2 x && zvz bs xs
 |_,_=>false
def whB(bs:List (Int×Int)):Option (List V)->Bool
 |some xs=>zvz bs xs
 |none=>false
theorem zth{α:Type}{xs:List α}{k:Int}(h0:0<=k)(h1:k<xs.length):∃v,atI xs k=some v/\v∈xs:=by
 obtain⟨v,h,e⟩:=ztg h0 h1;exact⟨v,h,List.mem_of_getElem? e⟩
theorem zv0{K:PySem.W.Frag}{H:Hp}{a:Addr}{its:Array Value}{n:Nat}{sl:Array (Option Value)}{xs:List V}(l:K.lookup a=some ⟨.type "tuple",none,.seq its n,sl⟩)(hz:its.size<=10000)(r:Vals xs its.toList):SqT K H a xs:=.inr ⟨_,its,n,l,rfl,rfl,rfl,ztf hz,r⟩
end L2
namespace L2
open PySem
theorem zbm{es:List Expr}{x1}{pos:Pos}{rest:List Expr}{env:Env}:starEach (.Tuple es x1 pos::rest) env=(false,eval (.Tuple es x1 pos) env)::starEach rest env:=by rw[starEach];intro e p h;cases h
theorem zv1{es:List Expr}{pos:Pos}{rest:List Expr}{env:Env}:starEach (.List es pos::rest) env=(false,eval (.List es pos) env)::starEach rest env:=by rw[starEach];intro e p h;cases h
theorem yr{c j}{pos:Pos}{rest:List Expr}{env:Env}:starEach (.Constant c j pos::rest) env=(false,eval (.Constant c j pos) env)::starEach rest env:=by rw[starEach];intro e p h;cases h
end L2
namespace L2
open PySem
theorem zv2{X:Cx}{e:Expr}{t:TT}(h:PW X e t):PT X e t:=h.pt
end L2
namespace L2
open PySem PySem.Spec PyProof.Rows
abbrev D:=PyData
def kD:Key->D
 |.inl i=>.int i
 |.inr x=>.str x
def zb6(a:Addr):HO:=.ext λh=>∃(x y z:Int) (tx ty tz:Tok) (n:Nat),h.get? a=some { cls:=.type "list",data:=.seq #[.int x tx,.int y ty,.int z tz] n }
def HO.per:HO->Bool
 |.tup _=>true
 |.frz _ _=>true
 |.ext _=>true
 |_=>false
def Pers(H H':Hp):Prop:=∀a o,H a=some o->o.per=true->H' a=some o
theorem Pers.refl(H:Hp):Pers H H:=λ_ _ h _=>h
theorem Pers.trans{H H1 H2:Hp}(a:Pers H H1)(b:Pers H1 H2):Pers H H2:=λc o h p=>b c o (a c o h p) p
theorem Same.pers{H H':Hp}(s:Same H H'):Pers H H':=λa o h _=>s a o h
theorem Pers.sqT{K:PySem.W.Frag}{H H':Hp}{a:Addr}{xs:List V}(p:Pers H H')(h:SqT K H a xs):SqT K H' a xs:=by
 rcases h with(h |⟨o,h⟩)|h
 ·exact .inl (.inl (p _ _ h rfl))
 ·exact .inl (.inr ⟨o,p _ _ h rfl⟩)
 ·exact .inr h
section
variable (K:PySem.W.Frag)
mutual
inductive Rep(H:Hp):D->V->Prop
 |non:Rep H .none .non
 |bl {b:Bool}:Rep H (.bool b) (.bl b)
 |int {i:Int}:Rep H (.int i) (.int i)
 |str {x:Str}:Rep H (.str x) (.str x)
 |tup {xs:List D}{a:Addr}{vs:List V} (h:SqT K H a vs) (r:Reps H xs vs):Rep H (.tuple xs) (.ref a)
 |lst {xs:List D}{a:Addr}{vs:List V}{o:Obj} (h:H a=some (.frz o (.lst vs))) (r:Reps H xs vs):Rep H (.list xs) (.ref a)
 |dic {kvs:List (D×D)}{a:Addr}{kws:List (Key×V)}{o:Obj} (h:H a=some (.frz o (.dK kws))) (r:RepK H kvs kws):Rep H (.dict kvs) (.ref a)
inductive Reps(H:Hp):List D->List V->Prop
 |nil:Reps H [] []
 |cons {d:D}{v:V}{ds:List D}{vs:List V} (r:Rep H d v) (t:Reps H ds vs):Reps H (d::ds) (v::vs)
inductive RepK(H:Hp):List (D×D)->List (Key×V)->Prop
 |nil:RepK H [] []
 |cons {k:Key}{d:D}{v:V}{ds:List (D×D)}{vs:List (Key×V)} (r:Rep H d v) (t:RepK H ds vs):RepK H ((kD k,d)::ds) ((k,v)::vs)
end
end
section
variable {K:PySem.W.Frag}{H H':Hp}
theorem Rep.mono(p:Pers H H'){d:D}{v:V}(h:Rep K H d v):Rep K H' d v :=
 Rep.rec (motive_1:=λd v _=>Rep K H' d v) (motive_2:=λds vs _=>Reps K H' ds vs) (motive_3:=λds vs _=>RepK K H' ds vs) .non .bl .int .str (λh _ i=>.tup (p.sqT h) i) (λh _ i=>.lst (p _ _ h rfl) i) (λh _ i=>.dic (p _ _ h rfl) i) .nil (λ_ _ i j=>.cons i j) .nil (λ_ _ i j=>.cons i j) h
theorem Reps.ind{P:List D->List V->Prop}(n:P [] [])(c:∀d v ds vs,Rep K H d v->Reps K H ds vs->P ds vs->P (d::ds) (v::vs)){ds:List D}{vs:List V}(h:Reps K H ds vs):P ds vs :=
 Reps.rec (motive_1:=λ_ _ _=>True) (motive_2:=λds vs _=>P ds vs) (motive_3:=λ_ _ _=>True) trivial trivial trivial trivial (λ_ _ _=>trivial) (λ_ _ _=>trivial) (λ_ _ _=>trivial) n (λr t _ j=>c _ _ _ _ r t j) trivial (λ_ _ _ _=>trivial) h
theorem Reps.mono(p:Pers H H'){ds:List D}{vs:List V}(h:Reps K H ds vs):Reps K H' ds vs:=h.ind .nil λ_ _ _ _ r _ j=>.cons (r.mono p) j
theorem Reps.length{ds:List D}{vs:List V}(h:Reps K H ds vs):ds.length=vs.length:=h.ind (P:=λds vs=>ds.length=vs.length) rfl λ_ _ _ _ _ _ j=>congrArg (·+1) j
theorem Reps.append{ds es:List D}{vs ws:List V}(h:Reps K H ds vs)(s:Reps K H es ws):Reps K H (ds++es) (vs++ws):=h.ind (P:=λds vs=>Reps K H (ds++es) (vs++ws)) s λ_ _ _ _ r _ j=>.cons r j
theorem Reps.get{ds:List D}{vs:List V}{i:Nat}{d:D}(h:Reps K H ds vs):ds[i]?=some d->∃v,vs[i]?=some v/\Rep K H d v :=
 h.ind (P:=λds vs=>∀i:Nat,ds[i]?=some d->∃v,vs[i]?=some v/\Rep K H d v) (λ_ e=>nomatch e) (λd' v ds vs r _ j i e=>by
  cases i with
  |zero=>cases e;exact⟨v,rfl,r⟩
  |succ i=>exact j i e) i
theorem Reps.get'{ds:List D}{vs:List V}{i:Nat}{v:V}(h:Reps K H ds vs):vs[i]?=some v->∃d,ds[i]?=some d/\Rep K H d v :=
 h.ind (P:=λds vs=>∀i:Nat,vs[i]?=some v->∃d,ds[i]?=some d/\Rep K H d v) (λ_ e=>nomatch e) (λd v' ds vs r _ j i e=>by
  cases i with
  |zero=>cases e;exact⟨d,rfl,r⟩
  |succ i=>exact j i e) i
theorem Reps.take{ds:List D}{vs:List V}(n:Nat)(h:Reps K H ds vs):Reps K H (ds.take n) (vs.take n) :=
 h.ind (P:=λds vs=>∀n:Nat,Reps K H (ds.take n) (vs.take n)) (λn=>by rw[List.take_nil,List.take_nil];exact .nil) (λ_ _ _ _ r _ j n=>by
  cases n with
  |zero=>exact .nil
  |succ n=>exact .cons r (j n)) n
theorem Reps.drop{ds:List D}{vs:List V}(n:Nat)(h:Reps K H ds vs):Reps K H (ds.drop n) (vs.drop n) :=
 h.ind (P:=λds vs=>∀n:Nat,Reps K H (ds.drop n) (vs.drop n)) (λn=>by rw[List.drop_nil,List.drop_nil];exact .nil) (λ_ _ _ _ r t j n=>by
  cases n with
  |zero=>exact .cons r t
  |succ n=>exact j n) n
theorem Reps.set{d:D}{v:V}(r:Rep K H d v){ds:List D}{vs:List V}(i:Nat)(h:Reps K H ds vs):Reps K H (ds.set i d) (vs.set i v) :=
 h.ind (P:=λds vs=>∀i:Nat,Reps K H (ds.set i d) (vs.set i v)) (λ_=>.nil) (λ_ _ _ _ q t j i=>by
  cases i with
  |zero=>exact .cons r t
  |succ i=>exact .cons q (j i)) i
theorem Reps.rep{ds:List D}{vs:List V}(h:Reps K H ds vs):∀k:Nat,Reps K H (List.replicate k ds).flatten (List.replicate k vs).flatten
 |0=>.nil
 |k+1=>by
  rw[List.replicate_succ,List.replicate_succ,List.flatten_cons,List.flatten_cons];exact h.append (h.rep k)
theorem Reps.ints:∀{ns:List Int},Reps K H (ns.map PyData.int) (ns.map V.int)
 |[]=>.nil
 |_::_=>.cons .int Reps.ints
theorem Reps.of_ints{ns:List Int}{vs:List V}(h:Reps K H (ns.map PyData.int) vs):vs=ns.map V.int:=by
 induction ns generalizing vs with
 |nil=>cases h;rfl
 |cons n ns ih=>
  cases h with
  |cons r t=>cases r;rw[ih t];rfl
theorem Reps.same(s:Same H H'){ds:List D}{vs:List V}(r:Reps K H ds vs):Reps K H' ds vs:=r.mono s.pers
theorem Rep.same(s:Same H H'){d:D}{v:V}(r:Rep K H d v):Rep K H' d v:=r.mono s.pers
end
section
variable (K:PySem.W.Frag)
mutual
inductive RepN(H:Hp):D->V->Prop
 |non:RepN H .none .non
 |bl {b:Bool}:RepN H (.bool b) (.bl b)
 |int {i:Int}:RepN H (.int i) (.int i)
 |str {x:Str}:RepN H (.str x) (.str x)
 |tup {xs:List D}{a:Addr}{vs:List V} (h:SqT K H a vs) (r:RepNs H xs vs):RepN H (.tuple xs) (.ref a)
 |lst {xs:List D}{a:Addr}{vs:List V} (h:Rd H a (.lst vs)) (r:RepNs H xs vs):RepN H (.list xs) (.ref a)
inductive RepNs(H:Hp):List D->List V->Prop
 |nil:RepNs H [] []
 |cons {d:D}{v:V}{ds:List D}{vs:List V} (r:RepN H d v) (t:RepNs H ds vs):RepNs H (d::ds) (v::vs)
end
end
section
variable {K:PySem.W.Frag}{H H':Hp}
theorem Same.rd(s:Same H H'){a:Addr}{u:HO}(h:Rd H a u):Rd H' a u:=by
 rcases h with h |⟨o,h⟩
 ·exact .inl (s _ _ h)
 ·exact .inr ⟨o,s _ _ h⟩
theorem RepN.gen(ht:∀{a vs},SqT K H a vs->SqT K H' a vs)(hl:∀{a vs},Rd H a (.lst vs)->Rd H' a (.lst vs)){d:D}{v:V}(h:RepN K H d v):RepN K H' d v :=
 RepN.rec (motive_1:=λd v _=>RepN K H' d v) (motive_2:=λds vs _=>RepNs K H' ds vs) .non .bl .int .str (λh _ i=>.tup (ht h) i) (λh _ i=>.lst (hl h) i) .nil (λ_ _ i j=>.cons i j) h
theorem RepNs.ind{P:List D->List V->Prop}(n:P [] [])(c:∀d v ds vs,RepN K H d v->RepNs K H ds vs->P ds vs->P (d::ds) (v::vs)){ds:List D}{vs:List V}(h:RepNs K H ds vs):P ds vs :=
 RepNs.rec (motive_1:=λ_ _ _=>True) (motive_2:=λds vs _=>P ds vs) trivial trivial trivial trivial (λ_ _ _=>trivial) (λ_ _ _=>trivial) n (λr t _ j=>c _ _ _ _ r t j) h
theorem RepNs.gen(ht:∀{a vs},SqT K H a vs->SqT K H' a vs)(hl:∀{a vs},Rd H a (.lst vs)->Rd H' a (.lst vs)){ds:List D}{vs:List V}(h:RepNs K H ds vs):RepNs K H' ds vs:=h.ind .nil λ_ _ _ _ r _ j=>.cons (r.gen ht hl) j
theorem RepN.same(s:Same H H'){d:D}{v:V}(h:RepN K H d v):RepN K H' d v:=h.gen (λh=>s.pers.sqT h) (λh=>s.rd h)
theorem RepNs.same(s:Same H H'){ds:List D}{vs:List V}(h:RepNs K H ds vs):RepNs K H' ds vs:=h.gen (λh=>s.pers.sqT h) (λh=>s.rd h)
theorem Rep.now{d:D}{v:V}(h:Rep K H d v):(∀kvs,d ≠ .dict kvs)->d.canLay0=true->RepN K H d v :=
 Rep.rec (motive_1:=λd v _=>(∀kvs,d ≠ .dict kvs)->d.canLay0=true->RepN K H d v) (motive_2:=λds vs _=>PyData.canLayAll0 ds=true->RepNs K H ds vs) (motive_3:=λ_ _ _=>True)
  (λ_ _=>.non) (λ_ _=>.bl) (λ_ _=>.int) (λ_ _=>.str) (λh _ i _ c=>.tup h (i (by simpa[PyData.canLay0]using c))) (λh _ i _ c=>.lst (.inr ⟨_,h⟩) (i (by simpa[PyData.canLay0]using c))) (λ_ _ _ n _=>absurd rfl (n _))
  (λ_=>.nil) (λ_ _ i j c=>by
   simp only[PyData.canLayAll0,Bool.and_eq_true]at c;exact .cons (i (λkvs e=>by subst e;simp[PyData.canLay0]at c) c.1) (j c.2)) trivial (λ_ _ _ _=>trivial) h
theorem Reps.now{ds:List D}{vs:List V}(h:Reps K H ds vs):PyData.canLayAll0 ds=true->RepNs K H ds vs :=
 h.ind (P:=λds vs=>PyData.canLayAll0 ds=true->RepNs K H ds vs) (λ_=>.nil) λ_ _ _ _ r _ j c=>by
  simp only[PyData.canLayAll0,Bool.and_eq_true]at c;exact .cons (r.now (λkvs e=>by subst e;simp[PyData.canLay0]at c) c.1) (j c.2)
end
inductive Mx where
 |v (d:D)|l (xs:List D)
inductive O where
 |lst (xs:List D)
 |dct (kvs:List (Key×D))
 |nst (xss:List (List D)) (ds:List D)
 |anc (a:Addr) (o:O)
 |ins (c:Str) (fs:List (Str×D))
 |mix (ms:List Mx)
inductive W where
 |val (d:D)|vw (xs:List D)|vd (xs:List (Key×D))|exc (x:Str×List (Str×Int))|scr (ns:List Int)|pen|tmp (d:D)|own (o:O)
abbrev DSt:=List (Option W)
def zti:Option W->Option W
 |some (.tmp _)=>none
 |w=>w
def clr(σ:DSt):DSt:=σ.map zti
section
variable (K:PySem.W.Frag)
def RepL(H:Hp)(xs:List D)(v:V):Prop:=∃a vs,v=.ref a/\Rd H a (.lst vs)/\Reps K H xs vs
def RepT(H:Hp)(d:D)(v:V):Prop:=Rep K H d v\/∃xs,d=.list xs/\RepL K H xs v
def zny(K:PySem.W.Frag)(H:Hp)(ks:List (Key×D))(vs:List (Key×V)):Prop:=ks.map (·.1)=vs.map (·.1)/\Reps K H (ks.map (·.2)) (vs.map (·.2))
def Nst(H:Hp):List (List D)->List Addr->Prop
 |[],[]=>True
 |xs::xss,b::bs=>(∃vs,H b=some (.lst vs)/\Reps K H xs vs)/\Nst H xss bs
 |_,_=>False
def MxR(H:Hp):List Mx->List V->List Addr->Prop
 |[],[],[]=>True
 |.v d::ms,u::us,bs=>Rep K H d u/\MxR H ms us bs
 |.l xs::ms,u::us,b::bs=>u=.ref b/\(∃vs,H b=some (.lst vs)/\Reps K H xs vs)/\MxR H ms us bs
 |_,_,_=>False
def RepO(H:Hp):O->V->List Addr->Prop
 |.mix ms,v,fp=>∃a us bs,v=.ref a/\fp=a::bs/\H a=some (.lst us)/\MxR K H ms us bs
 |.lst xs,v,fp=>∃a vs,v=.ref a/\fp = [a]/\H a=some (.lst vs)/\Reps K H xs vs
 |.dct ks,v,fp=>∃a vs,v=.ref a/\fp = [a]/\H a=some (.dK vs)/\zny K H ks vs
 |.nst xss ds,v,fp=>∃a as us,v=.ref a/\fp=a::as/\H a=some (.lst (as.map V.ref++us))/\Nst K H xss as/\Reps K H ds us
 |.anc a o,v,fp=>v=.ref a/\RepO H o v fp
 |.ins c fs,v,fp=>∃a dx C fv,v=.ref a/\fp = [a,dx]/\PySem.W.nsIn K mainGlobals c=some (some (.ref C))/\H a=some (.ins C dx fv)/\H dx=some (.own a)/\fv.map (·.1)=fs.map (·.1)/\Reps K H (fs.map (·.2)) (fv.map (·.2))
def RepD(H:Hp)(xs:List (Key×D))(v:V):Prop:=∃a vs,v=.ref a/\H a=some (.dK vs)/\zny K H xs vs
def zw9(C:Addr)(od:Option Addr)(a:Addr):HO:=.ext λh=>∃oe,h.get? a=some oe/\oe.cls=.ref C/\oe.dict=od/\∃vs,oe.data=.fields vs
def RepX(H:Hp)(x:Str×List (Str×Int))(v:V):Prop:=∃a C od,v=.ref a/\PySem.W.nsIn K mainGlobals x.1=some (some (.ref C))/\H a=some (zw9 C od a)/\((x.2 = []/\od=none)\/∃d,od=some d/\H d=some (.xd (x.2.map λp=>(p.1,V.int p.2))))
inductive Slots(H₀ H:Hp):DSt->St->List Addr->Prop
 |nil:Slots H₀ H [] [] []
 |none {v:Option V}{ws:DSt}{vs:St}{fp:List Addr} (t:Slots H₀ H ws vs fp):Slots H₀ H (Option.none::ws) (v::vs) fp
 |val {d:D}{v:V}{ws:DSt}{vs:St}{fp:List Addr} (r:Rep K H d v) (t:Slots H₀ H ws vs fp):Slots H₀ H (some (.val d)::ws) (some v::vs) fp
 |vw {xs:List D}{v:V}{ws:DSt}{vs:St}{fp:List Addr} (r:RepL K H₀ xs v) (t:Slots H₀ H ws vs fp):Slots H₀ H (some (.vw xs)::ws) (some v::vs) fp
 |vd {xs:List (Key×D)}{v:V}{ws:DSt}{vs:St}{fp:List Addr} (r:RepD K H₀ xs v) (t:Slots H₀ H ws vs fp):Slots H₀ H (some (.vd xs)::ws) (some v::vs) fp
 |exc {xs:Str×List (Str×Int)}{v:V}{ws:DSt}{vs:St}{fp:List Addr} (r:RepX K H₀ xs v) (t:Slots H₀ H ws vs fp):Slots H₀ H (some (.exc xs)::ws) (some v::vs) fp
 |scr {ns:List Int}{a:Addr}{ws:DSt}{vs:St}{fp:List Addr} (r:SqL K H₀ a (ns.map V.int)) (t:Slots H₀ H ws vs fp):Slots H₀ H (some (.scr ns)::ws) (some (.ref a)::vs) fp
 |pen {a:Addr}{ws:DSt}{vs:St}{fp:List Addr} (r:H a=some (zb6 a)) (t:Slots H₀ H ws vs fp):Slots H₀ H (some .pen::ws) (some (.ref a)::vs) fp
 |tmp {d:D}{v:V}{ws:DSt}{vs:St}{fp:List Addr} (r:RepN K H d v) (t:Slots H₀ H ws vs fp):Slots H₀ H (some (.tmp d)::ws) (some v::vs) fp
 |own {o:O}{v:V}{f:List Addr}{ws:DSt}{vs:St}{fp:List Addr} (r:RepO K H o v f) (t:Slots H₀ H ws vs fp):Slots H₀ H (some (.own o)::ws) (some v::vs) (f++fp)
structure DOk(H₀ H:Hp)(σD:DSt)(σ:St):Prop where
 same:Same H₀ H
 slots:∃fp,Slots K H₀ H σD σ fp/\fp.Nodup/\∀a∈fp,H₀ a=none
end
section
variable {K:PySem.W.Frag}{H₀ H H':Hp}{σD:DSt}{σ:St}
theorem RepX.same(s:Same H H'){xs:Str×List (Str×Int)}{v:V}:RepX K H xs v->RepX K H' xs v:=by
 rintro ⟨a,C,od,rfl,n,h,r⟩;refine⟨a,C,od,rfl,n,s _ _ h,?_⟩;rcases r with r |⟨d,e,r⟩
 ·exact .inl r
 ·exact .inr ⟨d,e,s _ _ r⟩
theorem RepD.same(s:Same H H'){xs:List (Key×D)}{v:V}:RepD K H xs v->RepD K H' xs v:=by
 rintro ⟨a,vs,rfl,h,r⟩;exact⟨a,vs,rfl,s _ _ h,r.1,r.2.same s⟩
theorem RepL.same(s:Same H H'){xs:List D}{v:V}:RepL K H xs v->RepL K H' xs v:=by
 rintro ⟨a,vs,rfl,h,r⟩;refine⟨a,vs,rfl,?_,r.same s⟩;rcases h with h |⟨o,h⟩
 ·exact .inl (s _ _ h)
 ·exact .inr ⟨o,s _ _ h⟩
theorem RepT.same(s:Same H H'){d:D}{v:V}:RepT K H d v->RepT K H' d v
 |.inl h=>.inl (h.same s)
 |.inr ⟨xs,e,h⟩=>.inr ⟨xs,e,h.same s⟩
theorem Rep.top{d:D}{v:V}(h:Rep K H d v):RepT K H d v:=.inl h
theorem RepT.list{xs:List D}{v:V}(h:RepT K H (.list xs) v):RepL K H xs v:=by
 rcases h with h |⟨ys,e,h⟩
 ·cases h with
  |lst h r=>exact⟨_,_,rfl,.inr ⟨_,h⟩,r⟩
 ·cases e;exact h
theorem RepL.sq{xs:List D}{v:V}(h:RepL K H xs v):∃a vs,v=.ref a/\SqL K H a vs/\Reps K H xs vs:=by
 obtain⟨a,vs,rfl,h,r⟩:=h;exact⟨a,vs,rfl,.inl h,r⟩
theorem Nst.live:∀{xss:List (List D)}{as:List Addr},Nst K H xss as->∀b∈as,∃vs,H b=some (.lst vs)
 |[],[],_,b,hb=>by cases hb
 |_::_,_::_,h,b,hb=>by
  rcases List.mem_cons.mp hb with rfl|hb
  ·obtain⟨vs,e,_⟩:=h.1;exact⟨vs,e⟩
  ·exact Nst.live h.2 b hb
theorem Nst.keep(p:Pers H H'):∀{xss:List (List D)}{as:List Addr},(∀a∈as,∀u,H a=some u->H' a=some u)->Nst K H xss as->Nst K H' xss as
 |[],[],_,_=>trivial
 |_::_,b::_,k,h=>by
  obtain⟨⟨vs,e,r⟩,t⟩:=h;exact⟨⟨vs,k b List.mem_cons_self _ e,r.mono p⟩,Nst.keep p (λa ha=>k a (List.mem_cons_of_mem _ ha)) t⟩
theorem MxR.ind{P:List Mx->List V->List Addr->Prop}(n:P [] [] [])(hv:∀d ms u us bs,Rep K H d u->MxR K H ms us bs->P ms us bs->P (.v d::ms) (u::us) bs)
  (hl:∀xs ms u us b bs,u=.ref b->(∃vs,H b=some (.lst vs)/\Reps K H xs vs)->MxR K H ms us bs->P ms us bs->P (.l xs::ms) (u::us) (b::bs)) {ms:List Mx}{us:List V}{bs:List Addr} (h:MxR K H ms us bs):P ms us bs:=by
 induction ms generalizing us bs with
 |nil=>
  cases us with
  |nil=>
   cases bs with
   |nil=>exact n
   |cons b bs=>exact h.elim
  |cons u us=>exact h.elim
 |cons m ms ih=>
  cases m with
  |v d=>
   cases us with
   |nil=>exact h.elim
   |cons u us=>exact hv _ _ _ _ _ h.1 h.2 (ih h.2)
  |l xs=>
   cases us with
   |nil=>exact h.elim
   |cons u us=>
    cases bs with
    |nil=>exact h.elim
    |cons b bs=>exact hl _ _ _ _ _ _ h.1 h.2.1 h.2.2 (ih h.2.2)
theorem MxR.live{ms:List Mx}{us:List V}{bs:List Addr}(h:MxR K H ms us bs):∀b∈bs,∃vs,H b=some (.lst vs) :=
 h.ind (P:=λ_ _ bs=>∀b∈bs,∃vs,H b=some (.lst vs)) (λ_ hb=>nomatch hb) (λ_ _ _ _ _ _ _ j=>j) λxs ms u us c bs _ l _ j b hb=>by
  rcases List.mem_cons.mp hb with rfl|hb
  ·obtain⟨vs,e,_⟩:=l;exact⟨vs,e⟩
  ·exact j b hb
theorem MxR.keep(p:Pers H H'){ms:List Mx}{us:List V}{bs:List Addr}(k:∀a∈bs,∀u,H a=some u->H' a=some u)(h:MxR K H ms us bs):MxR K H' ms us bs :=
 h.ind (P:=λms us bs=>(∀a∈bs,∀u,H a=some u->H' a=some u)->MxR K H' ms us bs) (λ_=>trivial) (λ_ _ _ _ _ r _ j k=>⟨r.mono p,j k⟩) (λxs ms u us b bs e l _ j k=>by
  obtain⟨vs,e1,r⟩:=l;exact⟨e,⟨vs,k b List.mem_cons_self _ e1,r.mono p⟩,j λa ha=>k a (List.mem_cons_of_mem _ ha)⟩) k
theorem MxR.len{ms:List Mx}{us:List V}{bs:List Addr}(h:MxR K H ms us bs):ms.length=us.length :=
 h.ind (P:=λms us _=>ms.length=us.length) rfl (λ_ _ _ _ _ _ _ j=>congrArg (·+1) j) λ_ _ _ _ _ _ _ _ _ j=>congrArg (·+1) j
theorem RepO.live{o:O}{v:V}{f:List Addr}(h:RepO K H o v f):∀a∈f,∃u,H a=some u/\u.per=false:=by
 induction o with
 |anc a o ih=>exact ih h.2
 |mix ms=>
  obtain⟨a,us,bs,rfl,rfl,e,m⟩:=h;intro b hb;rcases List.mem_cons.mp hb with rfl|hb
  ·exact⟨_,e,rfl⟩
  ·obtain⟨vs,e2⟩:=m.live b hb;exact⟨_,e2,rfl⟩
 |ins c fs=>
  obtain⟨a,dx,C,fv,rfl,rfl,_,e1,e2,_⟩:=h;intro b hb;simp only[List.mem_cons,List.not_mem_nil,or_false]at hb;rcases hb with rfl|rfl
  ·exact⟨_,e1,rfl⟩
  ·exact⟨_,e2,rfl⟩
 |lst xs=>
  obtain⟨a,vs,rfl,rfl,e,r⟩:=h;intro b hb;rw[List.mem_singleton.mp hb];exact⟨_,e,rfl⟩
 |dct ks=>
  obtain⟨a,vs,rfl,rfl,e,r⟩:=h;intro b hb;rw[List.mem_singleton.mp hb];exact⟨_,e,rfl⟩
 |nst xss ds=>
  obtain⟨a,as,us,rfl,rfl,e,n,r⟩:=h;intro b hb;rcases List.mem_cons.mp hb with rfl|hb
  ·exact⟨_,e,rfl⟩
  ·obtain⟨vs,e2⟩:=n.live b hb;exact⟨_,e2,rfl⟩
theorem RepO.keep{o:O}{v:V}{f:List Addr}(p:Pers H H')(k:∀a∈f,∀u,H a=some u->H' a=some u)(h:RepO K H o v f):RepO K H' o v f:=by
 induction o with
 |anc a o ih=>exact⟨h.1,ih h.2⟩
 |mix ms=>
  obtain⟨a,us,bs,rfl,rfl,e,m⟩:=h;exact⟨a,us,bs,rfl,rfl,k a List.mem_cons_self _ e,m.keep p λb hb=>k b (List.mem_cons_of_mem _ hb)⟩
 |ins c fs=>
  obtain⟨a,dx,C,fv,rfl,rfl,n,e1,e2,e3,r⟩:=h;exact⟨a,dx,C,fv,rfl,rfl,n,k a (by simp) _ e1,k dx (by simp) _ e2,e3,r.mono p⟩
 |lst xs=>
  obtain⟨a,vs,rfl,rfl,e,r⟩:=h;exact⟨a,vs,rfl,rfl,k a (by simp) _ e,r.mono p⟩
 |dct ks=>
  obtain⟨a,vs,rfl,rfl,e,r⟩:=h;exact⟨a,vs,rfl,rfl,k a (by simp) _ e,r.1,r.2.mono p⟩
 |nst xss ds=>
  obtain⟨a,as,us,rfl,rfl,e,n,r⟩:=h;exact⟨a,as,us,rfl,rfl,k a List.mem_cons_self _ e,n.keep p λb hb=>k b (List.mem_cons_of_mem _ hb),r.mono p⟩
theorem Slots.live{fp:List Addr}(h:Slots K H₀ H σD σ fp):∀a∈fp,∃u,H a=some u/\u.per=false:=by
 induction h with
 |nil=>intro a ha;cases ha
 |none _ ih=>exact ih
 |val _ _ ih=>exact ih
 |vw _ _ ih=>exact ih
 |vd _ _ ih=>exact ih
 |exc _ _ ih=>exact ih
 |scr _ _ ih=>exact ih
 |pen _ _ ih=>exact ih
 |tmp _ _ ih=>exact ih
 |own r _ ih=>
  intro a ha;rcases List.mem_append.mp ha with z|z
  ·exact r.live a z
  ·exact ih a z
theorem Slots.keep{fp:List Addr}(p:Pers H H')(kn:∀{d:D}{v:V},RepN K H d v->RepN K H' d v)(k:∀a∈fp,∀u,H a=some u->H' a=some u)(h:Slots K H₀ H σD σ fp):Slots K H₀ H' σD σ fp:=by
 induction h with
 |nil=>exact .nil
 |none _ ih=>exact .none (ih k)
 |val r _ ih=>exact .val (r.mono p) (ih k)
 |vw r _ ih=>exact .vw r (ih k)
 |vd r _ ih=>exact .vd r (ih k)
 |exc r _ ih=>exact .exc r (ih k)
 |scr r _ ih=>exact .scr r (ih k)
 |pen r _ ih=>exact .pen (p _ _ r rfl) (ih k)
 |tmp r _ ih=>exact .tmp (kn r) (ih k)
 |own r _ ih=>exact .own (r.keep p λa ha=>k a (List.mem_append_left _ ha)) (ih λa ha=>k a (List.mem_append_right _ ha))
theorem Slots.keepC{fp:List Addr}(p:Pers H H')(k:∀a∈fp,∀u,H a=some u->H' a=some u)(h:Slots K H₀ H σD σ fp):Slots K H₀ H' (clr σD) σ fp:=by
 induction h with
 |nil=>exact .nil
 |none _ ih=>exact .none (ih k)
 |val r _ ih=>exact .val (r.mono p) (ih k)
 |vw r _ ih=>exact .vw r (ih k)
 |vd r _ ih=>exact .vd r (ih k)
 |exc r _ ih=>exact .exc r (ih k)
 |scr r _ ih=>exact .scr r (ih k)
 |pen r _ ih=>exact .pen (p _ _ r rfl) (ih k)
 |tmp r _ ih=>exact .none (ih k)
 |own r _ ih=>exact .own (r.keep p λa ha=>k a (List.mem_append_left _ ha)) (ih λa ha=>k a (List.mem_append_right _ ha))
theorem Slots.length{fp:List Addr}(h:Slots K H₀ H σD σ fp):σD.length=σ.length:=by
 induction h with
 |nil=>rfl
 |none _ ih=>simp[ih]
 |val _ _ ih=>simp[ih]
 |vw _ _ ih=>simp[ih]
 |vd _ _ ih=>simp[ih]
 |exc _ _ ih=>simp[ih]
 |scr _ _ ih=>simp[ih]
 |pen _ _ ih=>simp[ih]
 |tmp _ _ ih=>simp[ih]
 |own _ _ ih=>simp[ih]
theorem DOk.after(s:Same H H')(h:DOk K H₀ H σD σ):DOk K H₀ H' σD σ:=by
 obtain⟨s0,fp,sl,nd,fr⟩:=h;exact⟨s0.trans s,fp,sl.keep s.pers (λh=>h.same s) λa _ u e=>s a u e,nd,fr⟩
theorem DOk.len(h:DOk K H₀ H σD σ):σD.length=σ.length:=let ⟨_,_,sl,_⟩:=h;sl.length
theorem Slots.get{fp:List Addr}(h:Slots K H₀ H σD σ fp):∀{i:Nat}{w:W},σD[i]?=some (some w)->∃v,σ[i]?=some (some v)/\match w with
  |.val d=>Rep K H d v
  |.vw xs=>RepL K H₀ xs v
  |.vd xs=>RepD K H₀ xs v
  |.exc xs=>RepX K H₀ xs v
  |.scr ns=>∃a,v=.ref a/\SqL K H₀ a (ns.map V.int)
  |.pen=>∃a,v=.ref a/\H a=some (zb6 a)
  |.tmp d=>RepN K H d v
  |.own o=>∃f,RepO K H o v f/\∀a∈f,a∈fp:=by
 induction h with
 |nil=>intro i w e;simp at e
 |none _ ih=>
  intro i w e
  cases i with
  |zero=>simp at e
  |succ i=>exact ih (by simpa using e)
 |val r _ ih=>
  intro i w e
  cases i with
  |zero=>simp at e;subst e;exact⟨_,rfl,r⟩
  |succ i=>exact ih (by simpa using e)
 |vw r _ ih=>
  intro i w e
  cases i with
  |zero=>simp at e;subst e;exact⟨_,rfl,r⟩
  |succ i=>exact ih (by simpa using e)
 |vd r _ ih=>
  intro i w e
  cases i with
  |zero=>simp at e;subst e;exact⟨_,rfl,r⟩
  |succ i=>exact ih (by simpa using e)
 |exc r _ ih=>
  intro i w e
  cases i with
  |zero=>simp at e;subst e;exact⟨_,rfl,r⟩
  |succ i=>exact ih (by simpa using e)
 |scr r _ ih=>
  intro i w e
  cases i with
  |zero=>simp at e;subst e;exact⟨_,rfl,_,rfl,r⟩
  |succ i=>exact ih (by simpa using e)
 |pen r _ ih=>
  intro i w e
  cases i with
  |zero=>simp at e;subst e;exact⟨_,rfl,_,rfl,r⟩
  |succ i=>exact ih (by simpa using e)
 |tmp r _ ih=>
  intro i w e
  cases i with
  |zero=>simp at e;subst e;exact⟨_,rfl,r⟩
  |succ i=>exact ih (by simpa using e)
 |own r _ ih=>
  intro i w e
  cases i with
  |zero=>simp at e;subst e;exact⟨_,rfl,_,r,λa ha=>List.mem_append_left _ ha⟩
  |succ i=>
   obtain⟨v,e1,e2⟩:=ih (by simpa using e);refine⟨v,e1,?_⟩
   cases w with
   |val d=>exact e2
   |vw xs=>exact e2
   |vd xs=>exact e2
   |exc xs=>exact e2
   |scr ns=>exact e2
   |pen=>exact e2
   |tmp d=>exact e2
   |own o=>obtain⟨f,r,m⟩:=e2;exact⟨f,r,λa ha=>List.mem_append_right _ (m a ha)⟩
theorem DOk.val(h:DOk K H₀ H σD σ){i:Nat}{d:D}(e:σD[i]?=some (some (.val d))):∃v,σ[i]?=some (some v)/\Rep K H d v:=let ⟨_,_,sl,_⟩:=h;sl.get e
theorem DOk.vw(h:DOk K H₀ H σD σ){i:Nat}{xs:List D}(e:σD[i]?=some (some (.vw xs))):∃v,σ[i]?=some (some v)/\RepL K H xs v:=by
 obtain⟨s,_,sl,_⟩:=h;obtain⟨v,e1,e2⟩:=sl.get e;exact⟨v,e1,RepL.same s e2⟩
theorem DOk.vd(h:DOk K H₀ H σD σ){i:Nat}{xs:List (Key×D)}(e:σD[i]?=some (some (.vd xs))):∃v,σ[i]?=some (some v)/\RepD K H xs v:=by
 obtain⟨s,_,sl,_⟩:=h;obtain⟨v,e1,e2⟩:=sl.get e;exact⟨v,e1,RepD.same s e2⟩
theorem DOk.exc(h:DOk K H₀ H σD σ){i:Nat}{xs:Str×List (Str×Int)}(e:σD[i]?=some (some (.exc xs))):∃v,σ[i]?=some (some v)/\RepX K H xs v:=by
 obtain⟨s,_,sl,_⟩:=h;obtain⟨v,e1,e2⟩:=sl.get e;exact⟨v,e1,RepX.same s e2⟩
theorem DOk.scr(h:DOk K H₀ H σD σ){i:Nat}{ns:List Int}(e:σD[i]?=some (some (.scr ns))):∃a,σ[i]?=some (some (.ref a))/\SqL K H a (ns.map V.int):=by
 obtain⟨s,_,sl,_⟩:=h;obtain⟨v,e1,a,rfl,e2⟩:=sl.get e;exact⟨a,e1,s.seq e2⟩
theorem DOk.pen(h:DOk K H₀ H σD σ){i:Nat}(e:σD[i]?=some (some .pen)):∃a,σ[i]?=some (some (.ref a))/\H a=some (zb6 a):=by
 obtain⟨s,_,sl,_⟩:=h;obtain⟨v,e1,a,rfl,e2⟩:=sl.get e;exact⟨a,e1,e2⟩
theorem DOk.tmp(h:DOk K H₀ H σD σ){i:Nat}{d:D}(e:σD[i]?=some (some (.tmp d))):∃v,σ[i]?=some (some v)/\RepN K H d v:=let ⟨_,_,sl,_⟩:=h;sl.get e
theorem DOk.ownL(h:DOk K H₀ H σD σ){i:Nat}{xs:List D}(e:σD[i]?=some (some (.own (.lst xs)))):∃a vs,σ[i]?=some (some (.ref a))/\H a=some (.lst vs)/\Reps K H xs vs/\H₀ a=none:=by
 obtain⟨s,fp,sl,nd,fr⟩:=h;obtain⟨v,e1,f,⟨a,vs,rfl,rfl,e2,r⟩,m⟩:=sl.get e;exact⟨a,vs,e1,e2,r,fr a (m a (by simp))⟩
theorem DOk.ownD(h:DOk K H₀ H σD σ){i:Nat}{xs:List (Key×D)}(e:σD[i]?=some (some (.own (.dct xs)))):∃a vs,σ[i]?=some (some (.ref a))/\H a=some (.dK vs)/\zny K H xs vs/\H₀ a=none:=by
 obtain⟨s,fp,sl,nd,fr⟩:=h;obtain⟨v,e1,f,⟨a,vs,rfl,rfl,e2,r⟩,m⟩:=sl.get e;exact⟨a,vs,e1,e2,r,fr a (m a (by simp))⟩
theorem Slots.set{fp f:List Addr}(h:Slots K H₀ H σD σ fp){w:Option W}{v:Option V}(hw:∀{ws:DSt}{vs:St}{g:List Addr},Slots K H₀ H ws vs g->Slots K H₀ H (w::ws) (v::vs) (f++g)):
  ∀(i:Nat),i<σD.length->∃g g',Slots K H₀ H (σD.set i w) (σ.set i v) (g++(f++g'))/\(g++g').Sublist fp:=by
 induction h with
 |nil=>intro i hi;exact absurd hi (Nat.not_lt_zero _)
 |none t ih=>
  intro i hi
  cases i with
  |zero=>exact⟨[],_,hw t,List.Sublist.refl _⟩
  |succ i=>obtain⟨g,g',e,s⟩:=ih i (Nat.lt_of_succ_lt_succ hi);exact⟨g,g',.none e,s⟩
 |val r t ih=>
  intro i hi
  cases i with
  |zero=>exact⟨[],_,hw t,List.Sublist.refl _⟩
  |succ i=>obtain⟨g,g',e,s⟩:=ih i (Nat.lt_of_succ_lt_succ hi);exact⟨g,g',.val r e,s⟩
 |vw r t ih=>
  intro i hi
  cases i with
  |zero=>exact⟨[],_,hw t,List.Sublist.refl _⟩
  |succ i=>obtain⟨g,g',e,s⟩:=ih i (Nat.lt_of_succ_lt_succ hi);exact⟨g,g',.vw r e,s⟩
 |vd r t ih=>
  intro i hi
  cases i with
  |zero=>exact⟨[],_,hw t,List.Sublist.refl _⟩
  |succ i=>obtain⟨g,g',e,s⟩:=ih i (Nat.lt_of_succ_lt_succ hi);exact⟨g,g',.vd r e,s⟩
 |exc r t ih=>
  intro i hi
  cases i with
  |zero=>exact⟨[],_,hw t,List.Sublist.refl _⟩
  |succ i=>obtain⟨g,g',e,s⟩:=ih i (Nat.lt_of_succ_lt_succ hi);exact⟨g,g',.exc r e,s⟩
 |scr r t ih=>
  intro i hi
  cases i with
  |zero=>exact⟨[],_,hw t,List.Sublist.refl _⟩
  |succ i=>obtain⟨g,g',e,s⟩:=ih i (Nat.lt_of_succ_lt_succ hi);exact⟨g,g',.scr r e,s⟩
 |pen r t ih=>
  intro i hi
  cases i with
  |zero=>exact⟨[],_,hw t,List.Sublist.refl _⟩
  |succ i=>obtain⟨g,g',e,s⟩:=ih i (Nat.lt_of_succ_lt_succ hi);exact⟨g,g',.pen r e,s⟩
 |tmp r t ih=>
  intro i hi
  cases i with
  |zero=>exact⟨[],_,hw t,List.Sublist.refl _⟩
  |succ i=>obtain⟨g,g',e,s⟩:=ih i (Nat.lt_of_succ_lt_succ hi);exact⟨g,g',.tmp r e,s⟩
 |@own o v' f' ws vs fp' r t ih=>
  intro i hi
  cases i with
  |zero=>exact⟨[],_,hw t,List.sublist_append_right _ _⟩
  |succ i=>
   obtain⟨g,g',e,s⟩:=ih i (Nat.lt_of_succ_lt_succ hi);refine⟨f'++g,g',?_,?_⟩
   ·rw[List.append_assoc];exact .own r e
   ·rw[List.append_assoc];exact(List.Sublist.refl _).append s
theorem DOk.put(h:DOk K H₀ H σD σ){w:Option W}{v:Option V}(hw:∀{ws:DSt}{vs:St}{g:List Addr},Slots K H₀ H ws vs g->Slots K H₀ H (w::ws) (v::vs) g)(i:Nat):DOk K H₀ H (σD.set i w) (σ.set i v):=by
 obtain⟨s,fp,sl,nd,fr⟩:=h
 by_cases hi:i<σD.length
 ·obtain⟨g,g',e,sb⟩:=sl.set (f:=[]) hw i hi;rw[List.nil_append]at e;exact⟨s,_,e,sb.nodup nd,λa ha=>fr a (sb.subset ha)⟩
 ·rw[List.set_eq_of_length_le (by omega),List.set_eq_of_length_le (by rw[<-sl.length];omega)];exact⟨s,fp,sl,nd,fr⟩
theorem DOk.setV(h:DOk K H₀ H σD σ){d:D}{v:V}(r:Rep K H d v)(i:Nat):DOk K H₀ H (σD.set i (some (.val d))) (σ.set i (some v)):=h.put (.val r) i
theorem DOk.setO{H1:Hp}(h:DOk K H₀ H1 σD σ)(s1:Same H1 H){a:Addr}{vs:List V}{xs:List D}(n:H1 a=none)(e:H a=some (.lst vs))(r:Reps K H xs vs)(i:Nat):DOk K H₀ H (σD.set i (some (.own (.lst xs)))) (σ.set i (some (.ref a))):=by
 obtain⟨s,fp,sl,nd,fr⟩:=id h;have lv:∀b∈fp,b≠a:=λb hb z=>by
  obtain⟨u,e1,_⟩:=sl.live b hb;rw[z,n]at e1;cases e1
 obtain⟨s',fp',sl',_⟩:=id (h.after s1);have sl2:Slots K H₀ H σD σ fp:=sl.keep s1.pers (λh=>h.same s1) λb _ u e=>s1 b u e
 by_cases hi:i<σD.length
 ·obtain⟨g,g',e',sb⟩:=sl2.set (f:=[a]) (w:=some (.own (.lst xs))) (v:=some (.ref a)) (λt=>.own ⟨a,vs,rfl,rfl,e,r⟩ t) i hi;refine⟨s',_,e',?_,λb hb=>?_⟩
  ·have nd2:=sb.nodup nd;rw[List.nodup_append]at nd2 ⊢;refine⟨nd2.1,?_,λx hx y hy=>?_⟩
   ·rw[List.singleton_append,List.nodup_cons];exact⟨λz=>lv a (sb.subset (List.mem_append_right _ z)) rfl,nd2.2.1⟩
   ·rcases List.mem_append.mp hy with z|z
    ·rw[List.mem_singleton.mp z];exact lv x (sb.subset (List.mem_append_left _ hx))
    ·exact nd2.2.2 x hx y z
  ·rcases List.mem_append.mp hb with z|z
   ·exact fr b (sb.subset (List.mem_append_left _ z))
   ·rcases List.mem_append.mp z with z|z
    ·rw[List.mem_singleton.mp z]
     cases q:H₀ a with
     |none=>rfl
     |some u=>rw[s a u q]at n;cases n
    ·exact fr b (sb.subset (List.mem_append_right _ z))
 ·rw[List.set_eq_of_length_le (by omega),List.set_eq_of_length_le (by rw[<-sl2.length];omega)];exact⟨s',fp,sl2,nd,fr⟩
theorem Slots.write{fp:List Addr}(h:Slots K H₀ H σD σ fp)(nd:fp.Nodup){i:Nat}{xs ys:List D}{a:Addr}{vs:List V}(e:σD[i]?=some (some (.own (.lst xs))))(ev:σ[i]?=some (some (.ref a)))(ea:∃zs,H a=some (.lst zs))(r:Reps K H ys vs):
  Slots K H₀ (upd H a (.lst vs)) (clr (σD.set i (some (.own (.lst ys))))) σ fp:=by
 have ps:Pers H (upd H a (.lst vs)):=λb o hb hp=>by
  obtain⟨zs,ea⟩:=ea;rw[ya (λz=>by rw[z,ea]at hb;cases hb;cases hp)];exact hb
 induction h generalizing i with
 |nil=>simp at e
 |none t ih=>
  cases i with
  |zero=>simp at e
  |succ i=>exact .none (ih nd (by simpa using e) (by simpa using ev))
 |val q t ih=>
  cases i with
  |zero=>simp at e
  |succ i=>exact .val (q.mono ps) (ih nd (by simpa using e) (by simpa using ev))
 |vw q t ih=>
  cases i with
  |zero=>simp at e
  |succ i=>exact .vw q (ih nd (by simpa using e) (by simpa using ev))
 |vd q t ih=>
  cases i with
  |zero=>simp at e
  |succ i=>exact .vd q (ih nd (by simpa using e) (by simpa using ev))
 |exc q t ih=>
  cases i with
  |zero=>simp at e
  |succ i=>exact .exc q (ih nd (by simpa using e) (by simpa using ev))
 |scr q t ih=>
  cases i with
  |zero=>simp at e
  |succ i=>exact .scr q (ih nd (by simpa using e) (by simpa using ev))
 |pen q t ih=>
  cases i with
  |zero=>simp at e
  |succ i=>exact .pen (ps _ _ q rfl) (ih nd (by simpa using e) (by simpa using ev))
 |tmp q t ih=>
  cases i with
  |zero=>simp at e
  |succ i=>exact .none (ih nd (by simpa using e) (by simpa using ev))
 |@own o v f ws wvs fp' q t ih=>
  rw[List.nodup_append]at nd
  cases i with
  |zero=>
   simp at e ev;subst e ev;obtain⟨b,zs,eb,rfl,hb,rb⟩:=q
   cases eb;refine .own ⟨a,vs,rfl,rfl,z9,r.mono ps⟩ (t.keepC ps λc hc u hu=>?_);rw[ya (λz=>nd.2.2 a (by simp) c hc z.symm)];exact hu
  |succ i=>
   have e':ws[i]?=some (some (.own (.lst xs))):=by simpa using e
   have ev':wvs[i]?=some (some (.ref a)):=by simpa using ev
   refine .own (q.keep ps λc hc u hu=>?_) (ih nd.2.1 e' ev');obtain⟨v',e1,f',⟨b,zs,rfl,rfl,hb,rb⟩,m⟩:=t.get e';rw[ev']at e1
   cases e1;rw[ya (λz=>nd.2.2 c hc a (m a (by simp)) z)];exact hu
theorem w5{a:Addr}{o o':HO}(e:H a=some o)(p:o.per=false):Pers H (upd H a o'):=λb u hb hp=>by
 rw[ya (λz=>by rw[z,e]at hb;cases hb;rw[p]at hp;cases hp)];exact hb
theorem DOk.write(h:DOk K H₀ H σD σ){i:Nat}{xs ys:List D}{a:Addr}{vs zs:List V}(e:σD[i]?=some (some (.own (.lst xs))))(ev:σ[i]?=some (some (.ref a)))(ea:H a=some (.lst zs))(r:Reps K H ys vs):DOk K H₀ (upd H a (.lst vs)) (clr (σD.set i (some (.own (.lst ys))))) σ:=by
 obtain⟨a',_,e1,_,_,n⟩:=h.ownL e;rw[ev]at e1
 cases e1;obtain⟨s,fp,sl,nd,fr⟩:=h;refine⟨λb o hb=>?_,fp,sl.write nd e ev ⟨_,ea⟩ r,nd,fr⟩;rw[ya (λz=>by rw[z,n]at hb;cases hb)];exact s b o hb
end
section
variable {X:Cx}{pins:List (Addr×Obj)}{σ:St}{H:Hp}{s:Shared}{a:Addr}
theorem Inv.frz(I:Inv X pins σ H s){vs:List V}(h:H a=some (.lst vs)):∃o,Inv X pins σ (upd H a (.frz o (.lst vs))) s:=by
 obtain⟨z,its,n,r,e⟩:=I.hok a _ h;exact⟨_,I.write (h':=s.heap) (t':=s.toks) (x:=a) (e:=a) (by rw[h];exact trivial) (.inl rfl) (λb u _ q=>q) ⟨_,e⟩ ⟨e,z,its,n,r,e⟩⟩
theorem zkr{P:Program}{w:World}{h:Heap}{x y z:Int}{tx ty tz:Tok}{n:Nat}(e:h.get? a=some { cls:=.type "list",data:=.seq #[.int x tx,.int y ty,.int z tz] n }):ObjOk P w H h a (zb6 a) :=
 ⟨⟨x,y,z,tx,ty,tz,n,e⟩,⟨_,e⟩,λh1 h2 ⟨x,y,z,tx,ty,tz,n,e⟩ k=>⟨x,y,z,tx,ty,tz,n,k _ e⟩⟩
theorem Inv.toPen(I:Inv X pins σ H s){x y z:Int}(h:H a=some (.lst [.int x,.int y,.int z])):Inv X pins σ (upd H a (zb6 a)) s:=by
 obtain⟨zz,its,n,r,e⟩:=I.hok a _ h
 cases r with
 |cons r1 r=>
  cases r with
  |cons r2 r=>
   cases r with
   |cons r3 r=>
    cases r;obtain⟨t1,rfl⟩:=r1;obtain⟨t2,rfl⟩:=r2;obtain⟨t3,rfl⟩:=r3;exact I.write (h':=s.heap) (t':=s.toks) (x:=a) (e:=a) (by rw[h];exact trivial) (.inl rfl) (λb u _ q=>q) ⟨_,e⟩ (zkr e)
end
abbrev DTE:=DSt->(D->Prop)->Prop
abbrev DTF:=DSt->(List D->Prop)->Prop
abbrev DTT:=DSt->(Bool->Prop)->Prop
abbrev DTP:=DSt->(List W->Prop)->Prop
def DEnd(X:Cx)(pins:List (Addr×Obj))(σ:St)(H:Hp)(Q:D->Prop)(u:Value)(s':Shared):Prop:=∃v H' d,Inv X pins σ H' s'/\RelV v u/\Same H H'/\Rep X.K H' d v/\Q d
def zv3(X:Cx)(pins:List (Addr×Obj))(σ:St)(H:Hp)(Q:D->Prop)(u:Value)(s':Shared):Prop:=∃v H' d,Inv X pins σ H' s'/\RelV v u/\Same H H'/\RepT X.K H' d v/\Q d
def zdx(X:Cx)(pins:List (Addr×Obj))(σ:St)(H:Hp)(Q:List D->Prop)(u:Value)(s':Shared):Prop:=∃a H' vs xs,u=.ref a/\Inv X pins σ H' s'/\Same H H'/\H a=none/\H' a=some (.lst vs)/\Reps X.K H' xs vs/\Q xs
structure DE(X:Cx)(e:Expr)(t:DTE):Prop where
 run:∀(pins:List (Addr×Obj)) (s:Shared) (σ:St) (H H₀:Hp) (σD:DSt) (Q:D->Prop),Inv X pins σ H s->DOk X.K H₀ H σD σ->t σD Q->wpAny (model X.prog X.w) X.A (eval e X.env) (DEnd X pins σ H Q) X.xe s
structure DV(X:Cx)(e:Expr)(t:DTE):Prop where
 run:∀(pins:List (Addr×Obj)) (s:Shared) (σ:St) (H H₀:Hp) (σD:DSt) (Q:D->Prop),Inv X pins σ H s->DOk X.K H₀ H σD σ->t σD Q->wpAny (model X.prog X.w) X.A (eval e X.env) (zv3 X pins σ H Q) X.xe s
structure DF(X:Cx)(e:Expr)(t:DTF):Prop where
 run:∀(pins:List (Addr×Obj)) (s:Shared) (σ:St) (H H₀:Hp) (σD:DSt) (Q:List D->Prop),Inv X pins σ H s->DOk X.K H₀ H σD σ->t σD Q->wpAny (model X.prog X.w) X.A (eval e X.env) (zdx X pins σ H Q) X.xe s
def zr7(X:Cx)(pins:List (Addr×Obj))(σ:St)(H:Hp)(Q:Bool->Prop)(b:Bool)(s':Shared):Prop:=∃H',Inv X pins σ H' s'/\Same H H'/\Q b
structure DT(X:Cx)(e:Expr)(t:DTT):Prop where
 run:∀(pins:List (Addr×Obj)) (s:Shared) (σ:St) (H H₀:Hp) (σD:DSt) (Q:Bool->Prop),Inv X pins σ H s->DOk X.K H₀ H σD σ->t σD Q->wpAny (model X.prog X.w) X.A (isTrue e X.env (eval e X.env)) (zr7 X pins σ H Q) X.xe s
structure DWt(X:Cx)(e:Expr)(t:DTT):Prop where
 run:∀(whole:Sem Value) (pins:List (Addr×Obj)) (s:Shared) (σ:St) (H H₀:Hp) (σD:DSt) (Q:Bool->Prop),Inv X pins σ H s->DOk X.K H₀ H σD σ->t σD Q->wpAny (model X.prog X.w) X.A (isTrue e X.env whole) (zr7 X pins σ H Q) X.xe s
structure DA(X:Cx)(es:List Expr)(t:DTF):Prop where
 run:∀(pos:Pos) (pins:List (Addr×Obj)) (s:Shared) (σ:St) (H H₀:Hp) (σD:DSt) (Q:List D->Prop),Inv X pins σ H s->DOk X.K H₀ H σD σ->t σD Q ->
  wpAny (model X.prog X.w) X.A (spliced (backTo pos (starEach es X.env))) (λus s'=>∃vs H' ds,Inv X pins σ H' s'/\Vals vs us/\Same H H'/\Reps X.K H' ds vs/\Q ds) X.xe s
inductive RepTs(K:PySem.W.Frag)(H:Hp):List D->List V->Prop
 |nil:RepTs K H [] []
 |cons {d:D}{v:V}{ds:List D}{vs:List V} (r:RepT K H d v) (t:RepTs K H ds vs):RepTs K H (d::ds) (v::vs)
structure DAv(X:Cx)(es:List Expr)(t:DTF):Prop where
 run:∀(pos:Pos) (pins:List (Addr×Obj)) (s:Shared) (σ:St) (H H₀:Hp) (σD:DSt) (Q:List D->Prop),Inv X pins σ H s->DOk X.K H₀ H σD σ->t σD Q ->
  wpAny (model X.prog X.w) X.A (spliced (backTo pos (starEach es X.env))) (λus s'=>∃vs H' ds,Inv X pins σ H' s'/\Vals vs us/\Same H H'/\RepTs X.K H' ds vs/\Q ds) X.xe s
section
variable (K:PySem.W.Frag)
def ztj(H:Hp):W->V->Prop
 |.val d,v=>Rep K H d v
 |.vw xs,v=>RepL K H xs v
 |.vd xs,v=>RepD K H xs v
 |.exc xs,v=>RepX K H xs v
 |.scr ns,v=>∃a,v=.ref a/\SqL K H a (ns.map V.int)
 |.pen,v=>∃a,v=.ref a/\H a=some (zb6 a)
 |.tmp _,_=>False
 |.own _,_=>False
inductive RepWs(H:Hp):List W->List V->Prop
 |nil:RepWs H [] []
 |cons {w:W}{v:V}{ws:List W}{vs:List V} (r:ztj K H w v) (t:RepWs H ws vs):RepWs H (w::ws) (v::vs)
end
theorem RepWs.length{K:PySem.W.Frag}{H:Hp}{ws:List W}{vs:List V}(h:RepWs K H ws vs):ws.length=vs.length:=by
 induction h with
 |nil=>rfl
 |cons _ _ ih=>simp[ih]
structure DPs(X:Cx)(es:List Expr)(t:DTP):Prop where
 run:∀(pos:Pos) (pins:List (Addr×Obj)) (s:Shared) (σ:St) (H H₀:Hp) (σD:DSt) (Q:List W->Prop),Inv X pins σ H s->DOk X.K H₀ H σD σ->t σD Q ->
  wpAny (model X.prog X.w) X.A (spliced (backTo pos (starEach es X.env))) (λus s'=>∃vs H' ws,Inv X pins σ H' s'/\Vals vs us/\Same H H'/\RepWs X.K H' ws vs/\Q ws) X.xe s
section
variable (K:PySem.W.Frag)
def cnE(t:DTE):TE:=λσ H Q=>∃H₀ σD QD,DOk K H₀ H σD σ/\t σD QD/\∀v H' d,Same H H'->Rep K H' d v->QD d->Q v H'
def cnV(t:DTE):TE:=λσ H Q=>∃H₀ σD QD,DOk K H₀ H σD σ/\t σD QD/\∀v H' d,Same H H'->RepT K H' d v->QD d->Q v H'
def cnF(t:DTF):TE:=λσ H Q=>∃H₀ σD QD,DOk K H₀ H σD σ/\t σD QD/\∀a H' vs xs,Same H H'->H a=none->H' a=some (.lst vs)->Reps K H' xs vs->QD xs->Q (.ref a) H'
def cnT(t:DTT):TT:=λσ H Q=>∃H₀ σD QD,DOk K H₀ H σD σ/\t σD QD/\∀b H',Same H H'->QD b->Q b H'
def cnA(t:DTF):TA:=λσ H Q=>∃H₀ σD QD,DOk K H₀ H σD σ/\t σD QD/\∀vs H' ds,Same H H'->Reps K H' ds vs->QD ds->Q vs H'
def zxa(t:DTF):TA:=λσ H Q=>∃H₀ σD QD,DOk K H₀ H σD σ/\t σD QD/\∀vs H' ds,Same H H'->RepTs K H' ds vs->QD ds->Q vs H'
def cnP(t:DTP):TA:=λσ H Q=>∃H₀ σD QD,DOk K H₀ H σD σ/\t σD QD/\∀vs H' ws,Same H H'->RepWs K H' ws vs->QD ws->Q vs H'
end
section
variable {X:Cx}{e:Expr}{es:List Expr}
theorem DE.pe{t:DTE}(h:DE X e t):PE X e (cnE X.K t):=λpins s σ H Q I zq63=>by obtain⟨H₀,σD,QD,ok,q,k⟩:=zq63;exact thn (h.run pins s σ H H₀ σD QD I ok q) λu s' zq50=>by obtain⟨v,H',d,I',r,sm,rp,qd⟩:=zq50;exact⟨v,H',I',r,k v H' d sm rp qd⟩
theorem DV.pe{t:DTE}(h:DV X e t):PE X e (cnV X.K t):=λpins s σ H Q I zq63=>by obtain⟨H₀,σD,QD,ok,q,k⟩:=zq63;exact thn (h.run pins s σ H H₀ σD QD I ok q) λu s' zq50=>by obtain⟨v,H',d,I',r,sm,rp,qd⟩:=zq50;exact⟨v,H',I',r,k v H' d sm rp qd⟩
theorem DF.pe{t:DTF}(h:DF X e t):PE X e (cnF X.K t):=λpins s σ H Q I zq63=>by obtain⟨H₀,σD,QD,ok,q,k⟩:=zq63;exact thn (h.run pins s σ H H₀ σD QD I ok q) λu s' zq50=>by obtain⟨a,H',vs,xs,eu,I',sm,n,e,rp,qd⟩:=zq50;exact⟨.ref a,H',I',eu,k a H' vs xs sm n e rp qd⟩
theorem DT.pt{t:DTT}(h:DT X e t):PT X e (cnT X.K t):=λpins s σ H Q I zq63=>by obtain⟨H₀,σD,QD,ok,q,k⟩:=zq63;exact thn (h.run pins s σ H H₀ σD QD I ok q) λu s' zq50=>by obtain⟨H',I',sm,qd⟩:=zq50;exact⟨H',I',k u H' sm qd⟩
theorem DA.pa{t:DTF}(h:DA X es t):PA X es (cnA X.K t):=λpos pins s σ H Q I zq65=>by obtain⟨H₀,σD,QD,ok,q,k⟩:=zq65;exact thn (h.run pos pins s σ H H₀ σD QD I ok q) λus s' zq60=>by obtain⟨vs,H',ds,I',r,sm,rp,qd⟩:=zq60;exact⟨vs,H',I',r,k vs H' ds sm rp qd⟩
theorem DAv.pa{t:DTF}(h:DAv X es t):PA X es (zxa X.K t):=λpos pins s σ H Q I zq68=>by obtain⟨H₀,σD,QD,ok,q,k⟩:=zq68;exact thn (h.run pos pins s σ H H₀ σD QD I ok q) λus s' zq63=>by obtain⟨vs,H',ds,I',r,sm,rp,qd⟩:=zq63;exact⟨vs,H',I',r,k vs H' ds sm rp qd⟩
theorem DPs.pa{t:DTP}(h:DPs X es t):PA X es (cnP X.K t):=λpos pins s σ H Q I zq67=>by obtain⟨H₀,σD,QD,ok,q,k⟩:=zq67;exact thn (h.run pos pins s σ H H₀ σD QD I ok q) λus s' zq62=>by obtain⟨vs,H',ws,I',r,sm,rp,qd⟩:=zq62;exact⟨vs,H',I',r,k vs H' ws sm rp qd⟩
theorem DE.of{t:DTE}{t':TE}(h:PE X e t')(k:∀σ H H₀ σD QD,DOk X.K H₀ H σD σ->t σD QD->t' σ H (λv H'=>∃d,Same H H'/\Rep X.K H' d v/\QD d)):DE X e t :=
 ⟨λpins s σ H H₀ σD Q I ok q=>thn (h pins s σ H _ I (k σ H H₀ σD Q ok q)) λu s' zq80=>by obtain⟨v,H',I',r,d,sm,rp,qd⟩:=zq80;exact⟨v,H',d,I',r,sm,rp,qd⟩⟩
theorem DV.of{t:DTE}{t':TE}(h:PE X e t')(k:∀σ H H₀ σD QD,DOk X.K H₀ H σD σ->t σD QD->t' σ H (λv H'=>∃d,Same H H'/\RepT X.K H' d v/\QD d)):DV X e t :=
 ⟨λpins s σ H H₀ σD Q I ok q=>thn (h pins s σ H _ I (k σ H H₀ σD Q ok q)) λu s' zq80=>by obtain⟨v,H',I',r,d,sm,rp,qd⟩:=zq80;exact⟨v,H',d,I',r,sm,rp,qd⟩⟩
theorem DF.of{t:DTF}{t':TE}(h:PE X e t')(k:∀σ H H₀ σD QD,DOk X.K H₀ H σD σ->t σD QD->t' σ H (λv H'=>∃a vs xs,v=.ref a/\Same H H'/\H a=none/\H' a=some (.lst vs)/\Reps X.K H' xs vs/\QD xs)):DF X e t :=
 ⟨λpins s σ H H₀ σD Q I ok q=>thn (h pins s σ H _ I (k σ H H₀ σD Q ok q)) λu s' zq80=>by obtain⟨v,H',I',r,a,vs,xs,ev,sm,n,e,rp,qd⟩:=zq80;exact⟨a,H',vs,xs,by subst ev;exact r,I',sm,n,e,rp,qd⟩⟩
theorem DT.of{t:DTT}{t':TT}(h:PT X e t')(k:∀σ H H₀ σD QD,DOk X.K H₀ H σD σ->t σD QD->t' σ H (λb H'=>Same H H'/\QD b)):DT X e t :=
 ⟨λpins s σ H H₀ σD Q I ok q=>thn (h pins s σ H _ I (k σ H H₀ σD Q ok q)) λu s' zq80=>by obtain⟨H',I',sm,qd⟩:=zq80;exact⟨H',I',sm,qd⟩⟩
theorem DE.dv{t:DTE}(h:DE X e t):DV X e t:=⟨λpins s σ H H₀ σD Q I ok q=>thn (h.run pins s σ H H₀ σD Q I ok q) λu s' zq28=>by obtain⟨v,H',d,I',r,sm,rp,qd⟩:=zq28;exact⟨v,H',d,I',r,sm,rp.top,qd⟩⟩
theorem zb7{pins:List (Addr×Obj)}{σ:St}{H H':Hp}{s:Shared}{a:Addr}{vs:List V}{xs:List D}(I:Inv X pins σ H' s)(sm:Same H H')(n:H a=none)(e:H' a=some (.lst vs))(r:Reps X.K H' xs vs):
  ∃H'',Inv X pins σ H'' s/\Same H H''/\Rep X.K H'' (.list xs) (.ref a):=by
 obtain⟨o,J⟩:=I.frz e;refine⟨_,J,λb u hb=>?_,.lst z9 (r.mono (w5 e rfl))⟩;rw[ya (yz hb n)];exact sm b u hb
def dFz(t:DTF):DTE:=λσ Q=>t σ λxs=>Q (.list xs)
theorem DF.de{t:DTF}(h:DF X e t):DE X e (dFz t):=⟨λpins s σ H H₀ σD Q I ok q=>thn (h.run pins s σ H H₀ σD _ I ok q) λu s' zq34=>by
 obtain⟨a,H',vs,xs,eu,I',sm,n,e,rp,qd⟩:=zq34;obtain⟨H'',J,sm',r'⟩:=zb7 I' sm n e rp;exact⟨.ref a,H'',.list xs,J,eu,sm',r',qd⟩⟩
def zqh(i:Nat):DTE:=λσ Q=>match σ[i]? with
 |some (some (.val d))=>Q d
 |_=>False
def zqi(i:Nat):DTE:=λσ Q=>match σ[i]? with
 |some (some (.val d))=>Q d
 |some (some (.own (.lst xs)))=>Q (.list xs)
 |some (some (.vw xs))=>Q (.list xs)
 |_=>False
def dC(d:D):DTE:=λ_ Q=>Q d
theorem zi(i:Nat){x:Str}{pos:Pos}(hN:X.N[i]?=some x:=by rfl)(hv:Vis X.env.scope x:=by first|exact Or.inl rfl|exact Or.inr (Or.inl rfl)|exact Or.inr (Or.inr rfl))(hd:(x ==("__debug__" : Str))=false:=by decide)
  (hcd:(x ==("__classdict__" : Str))=false:=by decide):DE X (.Name x pos) (zqh i):=by
 refine DE.of (wm (i:=i) hN hv hd hcd) λσ H H₀ σD QD ok q=>?_;unfold zqh at q
 split at q
 ·next d e=>
  obtain⟨v,e1,r⟩:=ok.val e;exact⟨v,e1,d,Same.refl _,r,q⟩
 ·exact q.elim
theorem zb(i:Nat){x:Str}{pos:Pos}(hN:X.N[i]?=some x:=by rfl)(hv:Vis X.env.scope x:=by first|exact Or.inl rfl|exact Or.inr (Or.inl rfl)|exact Or.inr (Or.inr rfl))(hd:(x ==("__debug__" : Str))=false:=by decide)
  (hcd:(x ==("__classdict__" : Str))=false:=by decide):DV X (.Name x pos) (zqi i):=by
 refine DV.of (wm (i:=i) hN hv hd hcd) λσ H H₀ σD QD ok q=>?_;unfold zqi at q
 split at q
 ·next d e=>
  obtain⟨v,e1,r⟩:=ok.val e;exact⟨v,e1,d,Same.refl _,r.top,q⟩
 ·next xs e=>
  obtain⟨a,vs,e1,e2,r,_⟩:=ok.ownL e;exact⟨.ref a,e1,.list xs,Same.refl _,.inr ⟨xs,rfl,a,vs,rfl,.inl e2,r⟩,q⟩
 ·next xs e=>
  obtain⟨v,e1,r⟩:=ok.vw e;exact⟨v,e1,.list xs,Same.refl _,.inr ⟨xs,rfl,r⟩,q⟩
 ·exact q.elim
theorem zc{i j pos}:DE X (.Constant (.int i) j pos) (dC (.int i)):=DE.of vy λσ H H₀ σD QD ok q=>⟨.int i,Same.refl _,.int,q⟩
theorem kr{b j pos}:DE X (.Constant (.bool b) j pos) (dC (.bool b)):=DE.of zu8 λσ H H₀ σD QD ok q=>⟨.bool b,Same.refl _,.bl,q⟩
theorem za5{j pos}:DE X (.Constant .none j pos) (dC .none):=DE.of zsn λσ H H₀ σD QD ok q=>⟨.none,Same.refl _,.non,q⟩
theorem y9{x j pos}:DE X (.Constant (.str x) j pos) (dC (.str x)):=DE.of zso λσ H H₀ σD QD ok q=>⟨.str x,Same.refl _,.str,q⟩
theorem y0{x:Str}{d:D}{v:V}{u:Value}{pos:Pos}(hg:Gl X x)(hm:X.mg x=some u)(r:RelV v u)(rp:∀H,Rep X.K H d v)(hd:(x ==("__debug__" : Str))=false:=by decide):DE X (.Name x pos) (dC d) :=
 DE.of (zp3 hg hm r hd) λσ H H₀ σD QD ok q=>⟨d,Same.refl _,rp H,q⟩
def znz:DTF:=λ_ Q=>Q []
def zhn(t:DTE)(r:DTF):DTF:=λσ Q=>t σ λd=>r σ λds=>Q (d::ds)
theorem zm:DA X [] znz:=⟨λpos pins s σ H H₀ σD Q I ok q=>thn (vz pos pins s σ H (λvs H'=>vs = []/\H'=H) I ⟨rfl,rfl⟩) λus s' zq47=>by obtain⟨vs,H',I',r,e1,e2⟩:=zq47;subst e1 e2;exact⟨[],H',[],I',r,Same.refl _,.nil,q⟩⟩
theorem za{t:DTE}{r:DTF}(ha:DE X e t)(hr:DA X es r)(hs:starEach (e::es) X.env=(false,eval e X.env)::starEach es X.env:=by rfl):DA X (e::es) (zhn t r):=⟨λpos pins s σ H H₀ σD Q I ok q=>by
 refine thn (xv ha.pe hr.pa hs pos pins s σ H (λvs H'=>∃ds,Same H H'/\Reps X.K H' ds vs/\Q ds) I ?_) λus s' zq19=>by obtain⟨vs,H',I',r,ds,sm,rp,qd⟩:=zq19;exact⟨vs,H',ds,I',r,sm,rp,qd⟩
 exact⟨H₀,σD,_,ok,q,λv H1 d s1 r1 q1=>⟨H₀,σD,_,ok.after s1,q1,λvs H2 ds s2 r2 q2=>⟨d::ds,s1.trans s2,.cons (r1.same s2) r2,q2⟩⟩⟩⟩
theorem yf:DAv X [] znz:=⟨λpos pins s σ H H₀ σD Q I ok q=>thn (vz pos pins s σ H (λvs H'=>vs = []/\H'=H) I ⟨rfl,rfl⟩) λus s' zq49=>by obtain⟨vs,H',I',r,e1,e2⟩:=zq49;subst e1 e2;exact⟨[],H',[],I',r,Same.refl _,.nil,q⟩⟩
theorem zp{t:DTE}{r:DTF}(ha:DV X e t)(hr:DAv X es r)(hs:starEach (e::es) X.env=(false,eval e X.env)::starEach es X.env:=by rfl):DAv X (e::es) (zhn t r):=⟨λpos pins s σ H H₀ σD Q I ok q=>by
 refine thn (xv ha.pe hr.pa hs pos pins s σ H (λvs H'=>∃ds,Same H H'/\RepTs X.K H' ds vs/\Q ds) I ?_) λus s' zq20=>by obtain⟨vs,H',I',r,ds,sm,rp,qd⟩:=zq20;exact⟨vs,H',ds,I',r,sm,rp,qd⟩
 exact⟨H₀,σD,_,ok,q,λv H1 d s1 r1 q1=>⟨H₀,σD,_,ok.after s1,q1,λvs H2 ds s2 r2 q2=>⟨d::ds,s1.trans s2,.cons (r1.same s2) r2,q2⟩⟩⟩⟩
def zn0:DTP:=λ_ Q=>Q []
def zn1(t:DTE)(r:DTP):DTP:=λσ Q=>t σ λd=>r σ λws=>Q (.val d::ws)
def zqj(i:Nat)(r:DTP):DTP:=λσ Q=>match σ[i]? with
 |some (some (.own (.lst xs)))=>r σ λws=>Q (.vw xs::ws)
 |some (some (.vw xs))=>r σ λws=>Q (.vw xs::ws)
 |some (some (.scr ns))=>r σ λws=>Q (.scr ns::ws)
 |some (some (.val d))=>r σ λws=>Q (.val d::ws)
 |some (some .pen)=>r σ λws=>Q (.pen::ws)
 |_=>False
theorem zy:DPs X [] zn0:=⟨λpos pins s σ H H₀ σD Q I ok q=>thn (vz pos pins s σ H (λvs H'=>vs = []/\H'=H) I ⟨rfl,rfl⟩) λus s' zq49=>by obtain⟨vs,H',I',r,e1,e2⟩:=zq49;subst e1 e2;exact⟨[],H',[],I',r,Same.refl _,.nil,q⟩⟩
theorem ym{t:DTE}{r:DTP}(ha:DE X e t)(hr:DPs X es r)(hs:starEach (e::es) X.env=(false,eval e X.env)::starEach es X.env:=by rfl):DPs X (e::es) (zn1 t r):=⟨λpos pins s σ H H₀ σD Q I ok q=>by
 refine thn (xv ha.pe hr.pa hs pos pins s σ H (λvs H'=>∃ws,Same H H'/\RepWs X.K H' ws vs/\Q ws) I ?_) λus s' zq20=>by obtain⟨vs,H',I',r,ds,sm,rp,qd⟩:=zq20;exact⟨vs,H',ds,I',r,sm,rp,qd⟩
 exact⟨H₀,σD,_,ok,q,λv H1 d s1 r1 q1=>⟨H₀,σD,_,ok.after s1,q1,λvs H2 ds s2 r2 q2=>⟨.val d::ds,s1.trans s2,.cons (r1.same s2) r2,q2⟩⟩⟩⟩
theorem zn(i:Nat){x:Str}{pos:Pos}{r:DTP}(hr:DPs X es r)(hN:X.N[i]?=some x:=by rfl)(hv:Vis X.env.scope x:=by first|exact Or.inl rfl|exact Or.inr (Or.inl rfl)|exact Or.inr (Or.inr rfl))(hd:(x ==("__debug__" : Str))=false:=by decide)
  (hcd:(x ==("__classdict__" : Str))=false:=by decide) (hs:starEach (.Name x pos::es) X.env=(false,eval (.Name x pos) X.env)::starEach es X.env:=by rfl):DPs X (.Name x pos::es) (zqj i r):=⟨λpos' pins s σ H H₀ σD Q I ok q=>by
 refine thn (xv (wm (i:=i) hN hv hd hcd) hr.pa hs pos' pins s σ H (λvs H'=>∃ws,Same H H'/\RepWs X.K H' ws vs/\Q ws) I ?_) λus s' zq46=>by obtain⟨vs,H',I',r,ds,sm,rp,qd⟩:=zq46;exact⟨vs,H',ds,I',r,sm,rp,qd⟩
 unfold zqj at q
 split at q
 ·next xs e=>
  obtain⟨a,vs,e1,e2,r,_⟩:=ok.ownL e;exact⟨.ref a,e1,H₀,σD,_,ok,q,λws H2 ds s2 r2 q2=>⟨.vw xs::ds,s2,.cons (RepL.same s2 ⟨a,vs,rfl,.inl e2,r⟩) r2,q2⟩⟩
 ·next xs e=>
  obtain⟨v,e1,r⟩:=ok.vw e;exact⟨v,e1,H₀,σD,_,ok,q,λws H2 ds s2 r2 q2=>⟨.vw xs::ds,s2,.cons (RepL.same s2 r) r2,q2⟩⟩
 ·next ns e=>
  obtain⟨a,e1,r⟩:=ok.scr e;exact⟨.ref a,e1,H₀,σD,_,ok,q,λws H2 ds s2 r2 q2=>⟨.scr ns::ds,s2,.cons ⟨a,rfl,s2.seq r⟩ r2,q2⟩⟩
 ·next d e=>
  obtain⟨v,e1,r⟩:=ok.val e;exact⟨v,e1,H₀,σD,_,ok,q,λws H2 ds s2 r2 q2=>⟨.val d::ds,s2,.cons (r.same s2) r2,q2⟩⟩
 ·next e=>
  obtain⟨a,e1,r⟩:=ok.pen e;exact⟨.ref a,e1,H₀,σD,_,ok,q,λws H2 ds s2 r2 q2=>⟨.pen::ds,s2,.cons ⟨a,rfl,s2 _ _ r⟩ r2,q2⟩⟩
 ·exact q.elim⟩
def ztk(t:DTF):DTE:=λσ Q=>t σ λds=>ds.length<=sizeLine/\Q (.tuple ds)
def zqk(t:DTF):DTF:=λσ Q=>t σ λds=>ds.length<=sizeLine/\Q ds
theorem zv{x1 pos}{t:DTF}(h:DA X es t):DE X (.Tuple es x1 pos) (ztk t) :=
 DE.of (zs9 h.pa) λσ H H₀ σD QD ok q=>⟨H₀,σD,_,ok,q,λvs H1 ds s1 r1 q1=>⟨by rw[<-r1.length];exact q1.1,λp hp=>⟨.tuple ds,s1.trans (yk hp _),.tup (SqT.of z9) (r1.same (yk hp _)),q1.2⟩⟩⟩
theorem vi{pos}{t:DTF}(h:DA X es t):DF X (.List es pos) (zqk t) :=
 DF.of (zi2 h.pa) λσ H H₀ σD QD ok q=>⟨H₀,σD,_,ok,q,λvs H1 ds s1 r1 q1=>⟨by rw[<-r1.length];exact q1.1,λp hp=>⟨p,vs,ds,rfl,s1.trans (yk hp _),s1.free hp,z9,r1.same (yk hp _),q1.2⟩⟩⟩
variable {a b:Expr}{rest:List Expr}{pos:Pos}
def onB(Q:Bool->Prop):D->Prop
 |.bool b=>Q b
 |_=>False
def dTB(t:DTE):DTT:=λσ Q=>t σ (onB Q)
def ztl(t u:DTT):DTT:=λσ Q=>t σ λc=>if c=true then u σ Q else Q false
def ztm(t:DTT):DTT:=λσ Q=>t σ λc=>Q (!c)
theorem DWt.dt{t:DTT}(h:DWt X e t):DT X e t:=⟨h.run _⟩
theorem zdg{t:DTT}(ha:DT X a t):DWt X (.BoolOp .And [a] pos) t:=⟨λwh pins s σ H H₀ σD Q I ok q=>by
 refine isTrue_and (thn (ha.run pins s σ H H₀ σD Q I ok q) λc s1 e=>?_)
 cases c with
 |true=>exact isTrue_and_nil e
 |false=>exact e⟩
theorem zgh{t u:DTT}(ha:DT X a t)(hb:DWt X (.BoolOp .And (b::rest) pos) u):DWt X (.BoolOp .And (a::b::rest) pos) (ztl t u):=⟨λwh pins s σ H H₀ σD Q I ok q=>by
 refine isTrue_and (thn (ha.run pins s σ H H₀ σD _ I ok q) λc s1 zr2=>?_);obtain⟨H1,I1,sm,q1⟩:=zr2
 cases c with
 |true=>
  rw[if_pos rfl]at q1;exact thn (hb.run wh pins s1 σ H1 H₀ σD Q I1 (ok.after sm) q1) λ_ _ zq67=>by obtain⟨H2,I2,s2,q2⟩:=zq67;exact⟨H2,I2,sm.trans s2,q2⟩
 |false=>rw[if_neg Bool.false_ne_true]at q1;exact⟨H1,I1,sm,q1⟩⟩
theorem zdy{t:DTT}(ha:DT X a t):DT X (.UnaryOp .Not a pos) (ztm t):=⟨λpins s σ H H₀ σD Q I ok q=>isTrue_not (ha.run pins s σ H H₀ σD (λc=>Q (!c)) I ok q)⟩
def zn2:D->Bool
 |.none=>false
 |.bool b=>b
 |.int i=>i != 0
 |.str x=>(x.length:Int) != 0
 |.tuple xs=>!xs.isEmpty
 |.list xs=>!xs.isEmpty
 |.dict kvs=>!kvs.isEmpty
def ztn(t:DTE):DTT:=λσ Q=>t σ λd=>match d with
 |.str x=>x.length<=sizeLine/\Q (zn2 (.str x))
 |.dict _=>False
 |d=>Q (zn2 d)
theorem zi8{K:PySem.W.Frag}{H:Hp}{ds:List D}{vs:List V}(r:Reps K H ds vs):(!vs.isEmpty) = !ds.isEmpty:=by cases r <;> rfl
theorem zao{K:PySem.W.Frag}{H:Hp}{d:D}{v:V}(r:RepT K H d v)(h:match d with|.str x=>x.length<=sizeLine|.dict _=>False|_=>True):zs7 K v H (zn2 d):=by
 rcases r with r |⟨xs,rfl,a,vs,rfl,e,r⟩
 ·cases r with
  |non=>rfl
  |bl=>rfl
  |int=>rfl
  |str=>exact⟨h,rfl⟩
  |tup q r=>exact .inr (.inl ⟨_,q,(zi8 r).symm⟩)
  |lst q r=>exact .inl ⟨_,.inl (.inr ⟨_,q⟩),(zi8 r).symm⟩
  |dic q r=>exact h.elim
 ·exact .inl ⟨vs,.inl e,(zi8 r).symm⟩
theorem w6{t:DTE}(h:DV X e t)(he:∀whole,isTrue e X.env whole=(do let v <-whole;standAt e.pos;holding [v] (truthy v)):=by intro _;rfl):DT X e (ztn t) :=
 DT.of (znn h.pe he) λσ H H₀ σD QD ok q=>⟨H₀,σD,_,ok,q,λv H1 d s1 r1 q1=>by
  cases d with
  |str x=>exact⟨_,zao r1 q1.1,s1,q1.2⟩
  |dict _=>exact q1.elim
  |none=>exact⟨_,zao r1 trivial,s1,q1⟩
  |bool _=>exact⟨_,zao r1 trivial,s1,q1⟩
  |int _=>exact⟨_,zao r1 trivial,s1,q1⟩
  |tuple _=>exact⟨_,zao r1 trivial,s1,q1⟩
  |list _=>exact⟨_,zao r1 trivial,s1,q1⟩⟩
def zn3(t u:DTE):DTE:=λσ Q=>t σ λd=>match d with
 |.bool c=>if c=true then u σ Q else Q (.bool false)
 |_=>False
def zto(c:DTT)(t u:DTE):DTE:=λσ Q=>c σ λb=>if b=true then t σ Q else u σ Q
theorem zn4{op}{t:DTE}(h:DE X a t):DE X (.BoolOp op [a] pos) t:=⟨λpins s σ H H₀ σD Q I ok q=>BoolOp_one (h.run pins s σ H H₀ σD Q I ok q)⟩
theorem DEnd.back{pins:List (Addr×Obj)}{σ:St}{H H1:Hp}{Q:D->Prop}{u:Value}{s':Shared}(s1:Same H H1)(h:DEnd X pins σ H1 Q u s'):DEnd X pins σ H Q u s':=let ⟨v,H',d,I',r,sm,rp,qd⟩:=h;⟨v,H',d,I',r,s1.trans sm,rp,qd⟩
theorem zn5{t u:DTE}(ha:DE X a t)(hb:DE X (.BoolOp .And (b::rest) pos) u):DE X (.BoolOp .And (a::b::rest) pos) (zn3 t u):=⟨λpins s σ H H₀ σD Q I ok q=>by
 refine BoolOp_and (thn (ha.run pins s σ H H₀ σD _ I ok q) λv s1 zr64=>?_);obtain⟨x,H1,d,I1,r1,sm,rp,q1⟩:=zr64
 cases d with
 |bool c=>
  cases rp
  cases r1;refine wpAny_truthy_bool ?_
  cases c with
  |true=>exact thn (hb.run pins s1 σ H1 H₀ σD Q I1 (ok.after sm) (by simpa using q1)) λ_ _ h=>h.back sm
  |false=>exact⟨.bl false,H1,.bool false,I1,rfl,sm,.bl,by simpa using q1⟩
 |_=>exact q1.elim⟩
theorem qa{c:Expr}{tc:DTT}{t u:DTE}(hc:DT X c tc)(ha:DE X a t)(hb:DE X b u):DE X (.IfExp c a b pos) (zto tc t u) :=
 DE.of (zni hc.pt ha.pe hb.pe) λσ H H₀ σD QD ok q=>⟨H₀,σD,_,ok,q,λk H1 s1 q1=>by
  cases k with
  |true=>rw[if_pos rfl]at q1 ⊢;exact⟨H₀,σD,_,ok.after s1,q1,λv H2 d s2 r2 q2=>⟨d,s1.trans s2,r2,q2⟩⟩
  |false=>rw[if_neg Bool.false_ne_true]at q1 ⊢;exact⟨H₀,σD,_,ok.after s1,q1,λv H2 d s2 r2 q2=>⟨d,s1.trans s2,r2,q2⟩⟩⟩
end
section
variable {X:Cx}{pins:List (Addr×Obj)}{σ:St}{H:Hp}{s:Shared}
theorem Reps.readsW(I:Inv X pins σ H s){ds:List D}{vs:List V}(h:Reps X.K H ds vs)(k:∀d∈ds,∀(v:V) (u:Value),Rep X.K H d v->RelV v u->d.canLay0=true->∃as,Reads s.heap u d as){us:List Value}(r:Vals vs us)(c:PyData.canLayAll0 ds=true):∃as,ReadsAll s.heap us ds as:=by
 induction ds generalizing vs us with
 |nil=>cases h;cases r;exact⟨_,.nil⟩
 |cons d ds ih=>
  cases h with
  |cons q t=>
   cases r with
   |cons r1 r2=>
    simp only[PyData.canLayAll0,Bool.and_eq_true]at c;obtain⟨as,ra⟩:=k d List.mem_cons_self _ _ q r1 c.1;obtain⟨bs,rb⟩:=ih t (λx hx=>k x (List.mem_cons_of_mem _ hx)) r2 c.2;exact⟨_,.cons ra rb⟩
theorem Rep.reads(I:Inv X pins σ H s){d:D}{v:V}{u:Value}(h:Rep X.K H d v)(r:RelV v u)(c:d.canLay0=true):∃as,Reads s.heap u d as:=by
 refine Rep.rec (motive_1:=λd v _=>∀u:Value,RelV v u->d.canLay0=true->∃as,Reads s.heap u d as) (motive_2:=λds vs _=>∀us:List Value,Vals vs us->PyData.canLayAll0 ds=true->∃as,ReadsAll s.heap us ds as) (motive_3:=λ_ _ _=>True)
  ?_ ?_ ?_ ?_ ?_ ?_ ?_ ?_ ?_ trivial (λ_ _ _ _=>trivial) h u r c
 ·intro u r _;cases r;exact⟨_,.none⟩
 ·intro b u r _;cases r;exact⟨_,.bool _⟩
 ·intro i u r _;obtain⟨t,rfl⟩:=r;exact⟨_,.int _ _⟩
 ·intro x u r _;obtain⟨t,rfl⟩:=r;exact⟨_,.str _ _⟩
 ·intro xs a vs h q ih u r c
  cases r;obtain⟨its,rv,⟨o,e1,e2,n,e3⟩,_⟩:=I.tuple h;obtain⟨as,ra⟩:=ih its rv (by simpa[PyData.canLay0]using c);exact⟨_,.tuple e1 e2 e3 (by simpa using ra)⟩
 ·intro xs a vs o h q ih u r c
  cases r;obtain⟨_,z,its,n,rv,e⟩:=I.hok _ _ h;obtain⟨as,ra⟩:=ih its rv (by simpa[PyData.canLay0]using c);exact⟨_,.list e rfl rfl (by simpa using ra)⟩
 ·intro kvs a kws o h q ih u r c;simp[PyData.canLay0]at c
 ·intro us r _;cases r;exact⟨_,.nil⟩
 ·intro d v ds vs q t i j us r c
  cases r with
  |cons r1 r2=>
   simp only[PyData.canLayAll0,Bool.and_eq_true]at c;obtain⟨as,ra⟩:=i _ r1 c.1;obtain⟨bs,rb⟩:=j _ r2 c.2;exact⟨_,.cons ra rb⟩
theorem Reps.reads(I:Inv X pins σ H s){ds:List D}{vs:List V}{us:List Value}(h:Reps X.K H ds vs)(r:Vals vs us)(c:PyData.canLayAll0 ds=true):∃as,ReadsAll s.heap us ds as:=h.readsW I (λ_ _ _ _ q r c=>q.reads I r c) r c
theorem RepT.reads(I:Inv X pins σ H s){d:D}{v:V}{u:Value}(h:RepT X.K H d v)(r:RelV v u)(c:d.canLay0=true):∃as,Reads s.heap u d as:=by
 rcases h with h |⟨xs,rfl,a,vs,rfl,e,q⟩
 ·exact h.reads I r c
 ·cases r;obtain⟨z,its,n,rv,e⟩:=e.ok I.hok;obtain⟨as,ra⟩:=Reps.reads I q rv (by simpa[PyData.canLay0]using c);exact⟨_,.list e rfl rfl (by simpa using ra)⟩
end
def Lay(d:D):Prop:=SeqAt.shaped d=true
theorem Lay.can{d:D}(h:Lay d):d.canLay0=true:=by unfold Lay SeqAt.shaped at h;rw[Bool.and_eq_true]at h;exact h.1
theorem Lay.deep{d:D}(h:Lay d):d.depth<=64:=by unfold Lay SeqAt.shaped at h;rw[Bool.and_eq_true]at h;exact of_decide_eq_true h.2
abbrev DOp:=D->D->(D->Prop)->Prop
structure OpD(X:Cx)(f:Value->Value->Sem Value)(g:DOp):Prop where
 run:∀(pins:List (Addr×Obj)) (s:Shared) (σ:St) (H:Hp) (x y:V) (v u:Value) (a b:D) (Q:D->Prop),Inv X pins σ H s->RelV x v->RelV y u->RepT X.K H a x->RepT X.K H b y->g a b Q->wpAny (model X.prog X.w) X.A (f v u) (DEnd X pins σ H Q) X.xe s
structure OpF(X:Cx)(f:Value->Value->Sem Value)(g:D->D->(List D->Prop)->Prop):Prop where
 run:∀(pins:List (Addr×Obj)) (s:Shared) (σ:St) (H:Hp) (x y:V) (v u:Value) (a b:D) (Q:List D->Prop),Inv X pins σ H s->RelV x v->RelV y u->RepT X.K H a x->RepT X.K H b y->g a b Q->wpAny (model X.prog X.w) X.A (f v u) (zdx X pins σ H Q) X.xe s
def dOp(g:DOp)(ta tb:DTE):DTE:=λσ Q=>ta σ λa=>tb σ λb=>g a b Q
section
variable {X:Cx}{a b c:Expr}{ta tb tc:DTE}{pos:Pos}
theorem OpD.of{f:Value->Value->Sem Value}{r:R2}{g:DOp}(h:OpR X f r)(k:∀x y H a b Q,RepT X.K H a x->RepT X.K H b y->g a b Q->r x y H (λv H'=>∃d,Same H H'/\Rep X.K H' d v/\Q d)):OpD X f g :=
 ⟨λpins s σ H x y v u a b Q I rx ry ra rb q=>thn (h pins s σ H x y v u _ I rx ry (k x y H a b Q ra rb q)) λw s' zq15=>by obtain⟨z,H',I',rz,d,sm,rp,qd⟩:=zq15;exact⟨z,H',d,I',rz,sm,rp,qd⟩⟩
theorem OpF.of{f:Value->Value->Sem Value}{r:R2}{g:D->D->(List D->Prop)->Prop}(h:OpR X f r)(k:∀x y H a b Q,RepT X.K H a x->RepT X.K H b y->g a b Q->r x y H (λv H'=>∃p vs xs,v=.ref p/\Same H H'/\H p=none/\H' p=some (.lst vs)/\Reps X.K H' xs vs/\Q xs)):OpF X f g :=
 ⟨λpins s σ H x y v u a b Q I rx ry ra rb q=>thn (h pins s σ H x y v u _ I rx ry (k x y H a b Q ra rb q)) λw s' zq15=>by obtain⟨z,H',I',rz,p,vs,xs,ez,sm,n,e,rp,qd⟩:=zq15;exact⟨p,H',vs,xs,by subst ez;exact rz,I',sm,n,e,rp,qd⟩⟩
theorem OpF.opD{f:Value->Value->Sem Value}{g:D->D->(List D->Prop)->Prop}(h:OpF X f g):OpD X f (λa b Q=>g a b λxs=>Q (.list xs)) :=
 ⟨λpins s σ H x y v u a b Q I rx ry ra rb q=>thn (h.run pins s σ H x y v u a b _ I rx ry ra rb q) λw s' zq7=>by
  obtain⟨p,H',vs,xs,ew,I',sm,n,e,rp,qd⟩:=zq7;obtain⟨H'',J,sm',r'⟩:=zb7 I' sm n e rp;exact⟨.ref p,H'',.list xs,J,ew,sm',r',qd⟩⟩
theorem zv4{ta tb:DTE}(ha:DV X a ta)(hb:DV X b tb){pins:List (Addr×Obj)}{s:Shared}{σ:St}{H H₀:Hp}{σD:DSt}{R:D->D->Prop}(I:Inv X pins σ H s)(ok:DOk X.K H₀ H σD σ)(h:ta σD λx=>tb σD λy=>R x y)
  {α:Type}{Q:α->Shared->Prop}{f:Value->Value->Sem α}
  (hf:∀v u s2 x y H2 d e,Inv X pins σ H2 s2->RelV x v->RelV y u->Same H H2->RepT X.K H2 d x->RepT X.K H2 e y->R d e->wpAny (model X.prog X.w) X.A (f v u) Q X.xe s2) :
  wpAny (model X.prog X.w) X.A (eval a X.env) (λv s₁=>wpAny (model X.prog X.w) X.A (eval b X.env) (λu s₂=>wpAny (model X.prog X.w) X.A (f v u) Q X.xe s₂) X.xe s₁) X.xe s:=by
 refine thn (ha.run pins s σ H H₀ σD _ I ok h) λv s1 zr1=>?_;obtain⟨x,H1,d,I1,r1,sm1,p1,q1⟩:=zr1;refine thn (hb.run pins s1 σ H1 H₀ σD _ I1 (ok.after sm1) q1) λu s2 zr2=>?_;obtain⟨y,H2,e,I2,r2,sm2,p2,q2⟩:=zr2;exact hf v u s2 x y H2 d e I2 r1 r2 (sm1.trans sm2) (p1.same sm2) p2 q2
theorem zx{op:Operator}{g:DOp}(ho:OpD X (binaryOp op) g)(ha:DV X a ta)(hb:DV X b tb):DE X (.BinOp a op b pos) (dOp g ta tb) :=
 ⟨λpins s σ H H₀ σD Q I ok q=>wpAny_BinOp (zv4 ha hb I ok q λv u s2 x y H2 d e I2 rx ry sm rd re qd=>thn (ho.run pins s2 σ H2 x y v u d e Q I2 rx ry rd re qd) λ_ _ z=>z.back sm)⟩
theorem zi9{op:CmpOp}{g:DOp}(ho:OpD X (compareOp op) g)(ha:DV X a ta)(hb:DV X b tb)(hm:behindInMarks op b=false):DE X (.Compare a [op] [b] pos) (dOp g ta tb) :=
 ⟨λpins s σ H H₀ σD Q I ok q=>wpAny_Compare1 (zv4 ha hb I ok q λv u s2 x y H2 d e I2 rx ry sm rd re qd=>thn (ho.run pins s2 σ H2 x y v u d e Q I2 rx ry rd re qd) λ_ _ z=>z.back sm) hm⟩
theorem ye{op:CmpOp}{g:DOp}(ho:OpD X (compareOp op) g)(ha:DV X a ta)(hb:DV X b tb)(hm:behindInMarks op b=false):DT X (.Compare a [op] [b] pos) (dTB (dOp g ta tb)) :=
 ⟨λpins s σ H H₀ σD Q I ok q=>by
  refine wpAny_isTrue_Compare1 (thn (ha.run pins s σ H H₀ σD _ I ok q) λv s1 ⟨x,H1,d,I1,r1,sm1,p1,q1⟩=>thn (hb.run pins s1 σ H1 H₀ σD _ I1 (ok.after sm1) q1) λu s2 ⟨y,H2,e,I2,r2,sm2,p2,q2⟩=>
   thn (ho.run pins s2 σ H2 x y v u d e _ I2 r1 r2 (p1.same sm2) p2 q2) λk s3 ⟨z,H3,dz,I3,r3,sm3,p3,q3⟩=>?_) hm
  cases dz with
  |bool k=>
   cases p3
   cases r3;exact wpAny_truthy_bool ⟨H3,I3,(sm1.trans sm2).trans sm3,q3⟩
  |_=>exact q3.elim⟩
def zja(g g':DOp)(ta tb tc:DTE):DTE:=λσ Q=>ta σ λa=>tb σ λb=>g a b λz=>match z with
 |.bool k=>if k=true then tc σ λc=>g' b c Q else Q (.bool false)
 |_=>False
theorem zho{op op':CmpOp}{g g':DOp}(ho:OpD X (compareOp op) g)(ho':OpD X (compareOp op') g')(ha:DV X a ta)(hb:DV X b tb)(hc:DV X c tc)
  (hm:lastMarks [op,op'] [b,c]=false:=by with_unfolding_all rfl):DE X (.Compare a [op,op'] [b,c] pos) (zja g g' ta tb tc):=⟨λpins s σ H H₀ σD Q I ok q=>by
 refine Compare_chain (thn (ha.run pins s σ H H₀ σD _ I ok q) λv s1 ⟨x,H1,d,I1,r1,sm1,p1,q1⟩=>chain_link (thn (hb.run pins s1 σ H1 H₀ σD _ I1 (ok.after sm1) q1) λu s2 ⟨y,H2,e,I2,r2,sm2,p2,q2⟩=>
  thn (ho.run pins s2 σ H2 x y v u d e _ I2 r1 r2 (p1.same sm2) p2 q2) λk s3 ⟨z,H3,dz,I3,r3,sm3,p3,q3⟩=>?_)) hm
 cases dz with
 |bool k=>
  cases p3
  cases r3;refine wpAny_truthy_bool ?_
  cases k with
  |false=>exact ite_ff ⟨.bl false,H3,.bool false,I3,rfl,(sm1.trans sm2).trans sm3,.bl,by simpa using q3⟩
  |true=>
   refine ite_tt (chain_last (thn (hc.run pins s3 σ H3 H₀ σD (λc=>g' e c Q) I3 (ok.after ((sm1.trans sm2).trans sm3)) (by simpa using q3)) λw' s4 zr36=>?_));obtain⟨z',H4,f,I4,r4,sm4,p4,q4⟩:=zr36;exact thn (ho'.run pins s4 σ H4 y z' u w' e f Q I4 r2 r4 ((p2.same sm3).same sm4) p4 q4) λ_ _ z=>z.back (((sm1.trans sm2).trans sm3).trans sm4)
 |_=>exact q3.elim⟩
def dUn(g:D->(D->Prop)->Prop)(ta:DTE):DTE:=λσ Q=>ta σ λa=>g a Q
def ztp:D->(D->Prop)->Prop
 |.int i,Q=>Q (.int (-i))
 |_,_=>False
theorem jn(ha:DE X a ta):DE X (.UnaryOp .USub a pos) (dUn ztp ta) :=
 DE.of (zvi zs4 ha.pe) λσ H H₀ σD QD ok q=>⟨H₀,σD,_,ok,q,λv H1 d s1 r1 q1=>by
  cases d with
  |int i=>cases r1;exact⟨i,rfl,.int (-i),s1,.int,q1⟩
  |_=>exact q1.elim⟩
def ztq:D->(D->Prop)->Prop
 |.bool b,Q=>Q (.bool (!b))
 |_,_=>False
theorem zn6(ha:DE X a ta):DE X (.UnaryOp .Not a pos) (dUn ztq ta) :=
 DE.of (zsr ha.pe) λσ H H₀ σD QD ok q=>⟨H₀,σD,_,ok,q,λv H1 d s1 r1 q1=>by
  cases d with
  |bool i=>cases r1;exact⟨i,rfl,.bool (!i),s1,.bl,q1⟩
  |_=>exact q1.elim⟩
theorem RepT.int{K:PySem.W.Frag}{H:Hp}{i:Int}{v:V}(h:RepT K H (.int i) v):v=.int i:=by
 rcases h with h |⟨_,e,_⟩
 ·cases h;rfl
 ·cases e
theorem RepT.str{K:PySem.W.Frag}{H:Hp}{i:Str}{v:V}(h:RepT K H (.str i) v):v=.str i:=by
 rcases h with h |⟨_,e,_⟩
 ·cases h;rfl
 ·cases e
theorem RepT.bool{K:PySem.W.Frag}{H:Hp}{i:Bool}{v:V}(h:RepT K H (.bool i) v):v=.bl i:=by
 rcases h with h |⟨_,e,_⟩
 ·cases h;rfl
 ·cases e
theorem RepT.none{K:PySem.W.Frag}{H:Hp}{v:V}(h:RepT K H .none v):v=.non:=by
 rcases h with h |⟨_,e,_⟩
 ·cases h;rfl
 ·cases e
theorem RepT.tuple{K:PySem.W.Frag}{H:Hp}{xs:List D}{v:V}(h:RepT K H (.tuple xs) v):∃a vs,v=.ref a/\SqT K H a vs/\Reps K H xs vs:=by
 rcases h with h |⟨_,e,_⟩
 ·cases h with
  |tup h r=>exact⟨_,_,rfl,h,r⟩
 ·cases e
def gII(C:Int->Int->Prop)(f:Int->Int->D):DOp
 |.int i,.int j,Q=>C i j/\Q (f i j)
 |_,_,_=>False
def ze8(f:Int->Int->D):DOp
 |.int i,.int j,Q=>Q (f i j)
 |_,_,_=>False
theorem OpD.ii{f:Value->Value->Sem Value}{C:Int->Int->Prop}{g:Int->Int->Int}(h:OpR X f (rI C λi j=>.int (g i j))):OpD X f (gII C λi j=>.int (g i j)) :=
 OpD.of h λx y H a b Q ra rb q=>by
  cases a with
  |int i=>
   cases b with
   |int j=>cases ra.int;cases rb.int;exact⟨i,j,rfl,rfl,q.1,.int _,Same.refl _,.int,q.2⟩
   |_=>exact q.elim
  |_=>exact q.elim
theorem OpD.ii0{f:Value->Value->Sem Value}{g:Int->Int->Int}(h:OpR X f (rI0 λi j=>.int (g i j))):OpD X f (ze8 λi j=>.int (g i j)) :=
 OpD.of h λx y H a b Q ra rb q=>by
  cases a with
  |int i=>
   cases b with
   |int j=>cases ra.int;cases rb.int;exact⟨i,j,rfl,rfl,.int _,Same.refl _,.int,q⟩
   |_=>exact q.elim
  |_=>exact q.elim
theorem OpD.ib0{f:Value->Value->Sem Value}{g:Int->Int->Bool}(h:OpR X f (rI0 λi j=>.bl (g i j))):OpD X f (ze8 λi j=>.bool (g i j)) :=
 OpD.of h λx y H a b Q ra rb q=>by
  cases a with
  |int i=>
   cases b with
   |int j=>cases ra.int;cases rb.int;exact⟨i,j,rfl,rfl,.bool _,Same.refl _,.bl,q⟩
   |_=>exact q.elim
  |_=>exact q.elim
theorem zdz:OpD X (binaryOp .Sub) (ze8 λi j=>.int (i-j)):=OpD.ii0 zsy
theorem zks:OpD X (binaryOp .Mod) (gII (λ_ j=>0<j) λi j=>.int (i % j)):=OpD.ii ziz
theorem zv5:OpD X (binaryOp .Pow) (gII zp8 λi j=>.int (i ^ j.toNat)):=OpD.ii zs0
theorem zr8:OpD X (binaryOp .LShift) (gII zp8 λi j=>.int (i * 2 ^ j.toNat)):=OpD.ii zs1
theorem zkt:OpD X (binaryOp .RShift) (gII (λ_ j=>0<=j) λi j=>.int (i / 2 ^ j.toNat)):=OpD.ii zs2
theorem zn7:OpD X (binaryOp .BitAnd) (ze8 λi j=>.int (Builtin.bitAnd i j)):=OpD.ii0 zs3
theorem zc2:OpD X (compareOp .Lt) (ze8 λi j=>.bool (decide (i<j))):=OpD.ib0 zvk
theorem zql:OpD X (compareOp .LtE) (ze8 λi j=>.bool (decide (i<=j))):=OpD.ib0 zvl
theorem zmk:OpD X (compareOp .Gt) (ze8 λi j=>.bool (decide (j<i))):=OpD.ib0 zrx
theorem zqm:OpD X (compareOp .GtE) (ze8 λi j=>.bool (decide (j<=i))):=OpD.ib0 zvm
def ztr:D->D->(List D->Prop)->Prop
 |.list xs,.list ys,Q=>xs.length+ys.length<=sizeLine/\Q (xs++ys)
 |_,_,_=>False
theorem zqn:OpR X (binaryOp .Add) (λx y H Q=>∃l b xs zs,x=.ref l/\y=.ref b/\Rd H l (.lst xs)/\Rd H b (.lst zs)/\xs.length+zs.length<=sizeLine/\∀p,H p=none->Q (.ref p) (upd H p (.lst (xs++zs)))):=by
 intro pins s σ H x y v u Q I rx ry h;obtain⟨l,b,xs,zs,rfl,rfl,hH,hB,hz,q⟩:=h
 cases rx
 cases ry;obtain⟨z,its,n,r,e⟩:=hH.ok I.hok;obtain⟨z2,its2,n2,r2,e2⟩:=hB.ok I.hok;have hl:=r.length;have hl2:=r2.length;refine PySem.P.add_list e e2 ?_ (by rw[List.size_toArray,List.size_toArray];omega);have ea:its.toArray++its2.toArray=(its++its2).toArray:=by simp
 rw[ea];exact⟨.ref _,_,I.lnew (t':=s.toks) (r.append r2) (by rw[List.length_append];omega),rfl,q _ I.fresh⟩
theorem f_cat:OpF X (binaryOp .Add) ztr:=OpF.of zqn λx y H a b Q ra rb q=>by
 cases a with
 |list xs=>
  cases b with
  |list ys=>
   obtain⟨l,vs,rfl,hl,r1⟩:=ra.list;obtain⟨m,ws,rfl,hm,r2⟩:=rb.list;exact⟨l,m,vs,ws,rfl,rfl,hl,hm,by rw[<-r1.length,<-r2.length];exact q.1,λp hp=>⟨p,_,xs++ys,rfl,yk hp _,hp,z9,(r1.append r2).same (yk hp _),q.2⟩⟩
  |_=>exact q.elim
 |_=>exact q.elim
def zts:D->D->(List D->Prop)->Prop
 |.list xs,.int k,Q=>-(2 ^ 63)<=k/\k<2 ^ 63/\xs.length * k.toNat<=sizeLine/\Q (List.replicate k.toNat xs).flatten
 |_,_,_=>False
theorem zqo:OpR X (binaryOp .Mult) (λx y H Q=>∃l k xs,x=.ref l/\y=.int k/\Rd H l (.lst xs)/\-(2 ^ 63)<=k/\k<2 ^ 63/\xs.length * k.toNat<=sizeLine /\
 ∀p,H p=none->Q (.ref p) (upd H p (.lst (List.replicate k.toNat xs).flatten))):=by
 intro pins s σ H x y v u Q I rx ry h;obtain⟨l,k,xs,rfl,rfl,hH,h1,h2,hz,q⟩:=h
 cases rx;obtain⟨t,rfl⟩:=ry;obtain⟨z,its,n,r,e⟩:=hH.ok I.hok;have hl:=r.length;have hlen:its.toArray.size * k.toNat<=sizeLine:=by rw[List.size_toArray,<-hl];exact hz
 have hcap:¬ its.toArray.size * k.toNat >(2 ^ 63-1) / 8:=by
  have:(sizeLine:Nat)<=(2 ^ 63-1) / 8:=by decide
  omega
 have hfit:¬ (!Builtin.List.listFitsIndex k)=true:=by
  rw[fitsIndex_both h1 h2];exact Bool.false_ne_true
 have hlong:¬ Builtin.List.listTooLong (its.toArray.size * k.toNat)=true:=by
  rw[zns hlen];exact Bool.false_ne_true
 have hnew:List.foldl (λx1 x2=>x1++x2) #[] (List.replicate (if its.toArray.isEmpty=true then 0 else k.toNat) its.toArray)=(List.replicate k.toNat its).flatten.toArray:=by
  have f0:∀m:Nat,List.foldl (λx1 x2=>x1++x2) #[] (List.replicate m its.toArray)=(List.replicate m its).flatten.toArray:=λm=>by
   have:=zfm its m [];rw[List.nil_append]at this;exact this
  rw[f0]
  cases its with
  |nil=>simp
  |cons a r'=>rw[if_neg (by simp)]
 refine wpAny_binaryOp_repeat_ref (T := "list") (U := "int") (by decide) ⟨_,e,rfl⟩ (λs'=>typeIs_int s' k t) noFill_list_mul F.fills_int_mul F.slot_int_rmul repeat_list F.slot_int_index.lookup
  (call_meets F.slot_int_rmul (typeIs_int s k t) F.entry_int_rmul (F.args_int_rmul_2 _ _) (int___rmul___int_list k t l its.toArray n)
   ⟨e,rfl,⟨_,e,rfl⟩,call_meets F.slot_list_mul ⟨_,e,rfl⟩ F.entry_list_mul (F.args_list_mul_2 _ _) (AutoListH.list___mul___list_int_3 l its.toArray n k t hfit hcap hlong) ⟨e,?_⟩⟩)
 rw[hnew];exact⟨.ref _,_,I.lnew (t':=s.toks) (r.rep k.toNat) (by rw[zqe,Nat.mul_comm];exact hz),rfl,q _ I.fresh⟩
theorem f_rep:OpF X (binaryOp .Mult) zts:=OpF.of zqo λx y H a b Q ra rb q=>by
 cases a with
 |list xs=>
  cases b with
  |int k=>
   obtain⟨l,vs,rfl,hl,r1⟩:=ra.list
   cases rb.int;obtain⟨h1,h2,h3,q⟩:=q;exact⟨l,k,vs,rfl,rfl,hl,h1,h2,by rw[<-r1.length];exact h3,λp hp=>⟨p,_,_,rfl,yk hp _,hp,z9,(r1.rep k.toNat).same (yk hp _),q⟩⟩
  |_=>exact q.elim
 |_=>exact q.elim
def ztt:DOp
 |.int i,.int j,Q=>Q (.int (i+j))
 |.str x,.str y,Q=>x.length+y.length<=sizeLine/\Q (.str (x++y))
 |.tuple xs,.tuple ys,Q=>xs.length+ys.length<=sizeLine/\Q (.tuple (xs++ys))
 |.list xs,.list ys,Q=>xs.length+ys.length<=sizeLine/\Q (.list (xs++ys))
 |_,_,_=>False
theorem zqp:OpR X (binaryOp .Add) (λx y H Q=>∃a b xs ys,x=.ref a/\y=.ref b/\SqT X.K H a xs/\SqT X.K H b ys/\xs.length+ys.length<=sizeLine/\∀p H',Same H H'->SqT X.K H' p (xs++ys)->Q (.ref p) H'):=by
 intro pins s σ H x y v u Q I rx ry h;obtain⟨a,b,xs,ys,rfl,rfl,ha,hb,hz,q⟩:=h
 cases rx
 cases ry;obtain⟨its,r1,p1,_⟩:=I.tuple ha;obtain⟨its2,r2,p2,_⟩:=I.tuple hb
 by_cases hx:xs = []
 ·obtain⟨⟨cls,dd,data,sl⟩,ho,hc,n,hd⟩:=id p1;obtain⟨⟨cls2,dd2,data2,sl2⟩,ho2,hc2,n2,hd2⟩:=id p2;simp only at hc hd hc2 hd2;subst hc hd hc2 hd2;have hv:its = []:=r1.nil_iff.mpr hx;refine concat_meets ⟨_,ho,rfl⟩ ⟨_,ho2,rfl⟩ noFill_tuple_add seq_tuple_add PySem.F.slot_tuple_add PySem.F.entry_tuple_add (PySem.F.args_tuple_add_2 _ _) (tuple_addW0 a b its.toArray its2.toArray n n2 dd dd2 sl sl2 (by simp[hv])) ⟨ho,ho2,?_⟩;exact⟨.ref b,H,I,rfl,q b H (Same.refl H) (by rw[hx,List.nil_append];exact hb)⟩
 ·refine HT.cat_tup p1 p2 (λz=>hx (r1.nil_iff.mp z)) (λz=>⟨.ref a,H,I,rfl,q a H (Same.refl H) (by rw[r2.nil_iff.mp z,List.append_nil];exact ha)⟩) (λz=>?_) (by rw[<-r1.length,<-r2.length];exact hz);refine⟨.ref s.heap.objs.size,_,I.laid (t':=s.toks) (o:=.tup (xs++ys)) (λb ob q=>Heap.get?_push_of_some _ q) (Nat.le_refl _) ?_,rfl,q _ _ (yk (I.hok.fresh (Nat.le_refl _)) _) (SqT.of z9)⟩;exact⟨by rw[List.length_append];exact hz,_,r1.append r2,TupD.new _ _⟩
theorem o_catT:OpD X (binaryOp .Add) (λa b Q=>match a,b with|.tuple xs,.tuple ys=>xs.length+ys.length<=sizeLine/\Q (.tuple (xs++ys))|_,_=>False):=OpD.of zqp λx y H a b Q ra rb q=>by
 cases a with
 |tuple xs=>
  cases b with
  |tuple ys=>
   obtain⟨l,vs,rfl,hl,r1⟩:=ra.tuple;obtain⟨m,ws,rfl,hm,r2⟩:=rb.tuple;exact⟨l,m,vs,ws,rfl,rfl,hl,hm,by rw[<-r1.length,<-r2.length];exact q.1,λp H' sm e=>⟨_,sm,.tup e ((r1.append r2).same sm),q.2⟩⟩
  |_=>exact q.elim
 |_=>exact q.elim
theorem o_addS:OpD X (binaryOp .Add) (λa b Q=>match a,b with|.str x,.str y=>x.length+y.length<=sizeLine/\Q (.str (x++y))|_,_=>False):=OpD.of zi1 λx y H a b Q ra rb q=>by
 cases a with
 |str xs=>
  cases b with
  |str ys=>cases ra.str;cases rb.str;exact⟨_,_,rfl,rfl,q.1,.str _,Same.refl _,.str,q.2⟩
  |_=>exact q.elim
 |_=>exact q.elim
theorem yn:OpD X (binaryOp .Add) ztt:=⟨λpins s σ H x y v u a b Q I rx ry ra rb q=>by
 cases a with
 |int i=>cases b with
  |int j=>exact(OpD.ii0 znl).run pins s σ H x y v u _ _ Q I rx ry ra rb q
  |_=>exact q.elim
 |str i=>cases b with
  |str j=>exact o_addS.run pins s σ H x y v u _ _ Q I rx ry ra rb q
  |_=>exact q.elim
 |tuple i=>cases b with
  |tuple j=>exact o_catT.run pins s σ H x y v u _ _ Q I rx ry ra rb q
  |_=>exact q.elim
 |list i=>cases b with
  |list j=>exact f_cat.opD.run pins s σ H x y v u _ _ Q I rx ry ra rb q
  |_=>exact q.elim
 |_=>exact q.elim⟩
def ztu:DOp
 |.int i,.int j,Q=>CMul i j/\Q (.int (i * j))
 |.list xs,.int k,Q=>-(2 ^ 63)<=k/\k<2 ^ 63/\xs.length * k.toNat<=sizeLine/\Q (.list (List.replicate k.toNat xs).flatten)
 |_,_,_=>False
theorem zcr:OpD X (binaryOp .Mult) ztu:=⟨λpins s σ H x y v u a b Q I rx ry ra rb q=>by
 cases a with
 |int i=>cases b with
  |int j=>exact(OpD.ii zsz).run pins s σ H x y v u _ _ Q I rx ry ra rb q
  |_=>exact q.elim
 |list i=>cases b with
  |int j=>exact f_rep.opD.run pins s σ H x y v u _ _ Q I rx ry ra rb q
  |_=>exact q.elim
 |_=>exact q.elim⟩
def gEq:DOp
 |.int i,.int j,Q=>Q (.bool (decide (i=j)))
 |.str i,.str j,Q=>Q (.bool (decide (i=j)))
 |.bool i,.bool j,Q=>Q (.bool (decide (i=j)))
 |a,b,Q=>Lay a/\Lay b/\Q (.bool (PyData.eqv a b))
def gNe:DOp
 |.int i,.int j,Q=>Q (.bool (!decide (i=j)))
 |.str i,.str j,Q=>Q (.bool (!decide (i=j)))
 |.bool i,.bool j,Q=>Q (.bool (!decide (i=j)))
 |a,b,Q=>Lay a/\Lay b/\Q (.bool (!PyData.eqv a b))
theorem zv6(hu:X.A.units+64<cLine):OpD X (compareOp .Eq) (λa b Q=>Lay a/\Lay b/\Q (.bool (PyData.eqv a b))):=⟨λpins s σ H x y v u a b Q I rx ry ra rb q=>by
 obtain⟨as,e1⟩:=ra.reads I rx q.1.can;obtain⟨bs,e2⟩:=rb.reads I ry q.2.1.can;exact eq_dataH e1 e2 q.1 q.2.1 hu ⟨.bl _,H,_,I,rfl,Same.refl _,.bl,q.2.2⟩⟩
theorem zv7(hu:X.A.units+64<cLine):OpD X (compareOp .NotEq) (λa b Q=>Lay a/\Lay b/\Q (.bool (!PyData.eqv a b))):=⟨λpins s σ H x y v u a b Q I rx ry ra rb q=>by
 obtain⟨as,e1⟩:=ra.reads I rx q.1.can;obtain⟨bs,e2⟩:=rb.reads I ry q.2.1.can;exact ne_dataH e1 e2 q.1 q.2.1 hu ⟨.bl _,H,_,I,rfl,Same.refl _,.bl,q.2.2⟩⟩
theorem zr9{f:D->D->Bool}(neg:Bool)(op:CmpOp)(h:OpR X (compareOp op) (λx y H Q=>zs5 x y=true/\Q (.bl (if neg then !decide (x=y) else decide (x=y))) H)):
  OpD X (compareOp op) (λa b Q=>match a,b with
   |.int i,.int j=>Q (.bool (if neg then !decide (i=j) else decide (i=j)))
   |.str i,.str j=>Q (.bool (if neg then !decide (i=j) else decide (i=j)))
   |.bool i,.bool j=>Q (.bool (if neg then !decide (i=j) else decide (i=j)))
   |_,_=>False):=OpD.of h λx y H a b Q ra rb q=>by
 cases a with
 |int i=>cases b with
  |int j=>
   cases ra.int;cases rb.int;have e:decide (V.int i=V.int j)=decide (i=j):=by rw[Bool.eq_iff_iff];simp
   rw[e];exact⟨rfl,.bool _,Same.refl _,.bl,q⟩
  |_=>exact q.elim
 |str i=>cases b with
  |str j=>
   cases ra.str;cases rb.str;have e:decide (V.str i=V.str j)=decide (i=j):=by rw[Bool.eq_iff_iff];simp
   rw[e];exact⟨rfl,.bool _,Same.refl _,.bl,q⟩
  |_=>exact q.elim
 |bool i=>cases b with
  |bool j=>
   cases ra.bool;cases rb.bool;have e:decide (V.bl i=V.bl j)=decide (i=j):=by rw[Bool.eq_iff_iff];simp
   rw[e];exact⟨rfl,.bool _,Same.refl _,.bl,q⟩
  |_=>exact q.elim
 |_=>exact q.elim
theorem ja{k:Nat}(hr:Room k X.A):OpD X (compareOp .Eq) gEq:=⟨λpins s σ H x y v u a b Q I rx ry ra rb q=>by
 have G:=(zv6 (X:=X) hr.units).run pins s σ H x y v u a b Q I rx ry ra rb;have S:=(zr9 (X:=X) (f:=λ_ _=>true) false .Eq zrw).run pins s σ H x y v u a b Q I rx ry ra rb
 cases a <;> cases b <;> first|exact S q|exact G q⟩
theorem zgi{k:Nat}(hr:Room k X.A):OpD X (compareOp .NotEq) gNe:=⟨λpins s σ H x y v u a b Q I rx ry ra rb q=>by
 have G:=(zv7 (X:=X) hr.units).run pins s σ H x y v u a b Q I rx ry ra rb;have S:=(zr9 (X:=X) (f:=λ_ _=>true) true .NotEq zvj).run pins s σ H x y v u a b Q I rx ry ra rb
 cases a <;> cases b <;> first|exact S q|exact G q⟩
def isNone:D->Bool
 |.none=>true
 |_=>false
def ztv:DOp:=λa b Q=>match b with
 |.none=>Q (.bool (isNone a))
 |_=>False
theorem zjb{K:PySem.W.Frag}{H:Hp}{d:D}{v:V}(h:RepT K H d v):decide (v=.non)=isNone d:=by
 rcases h with h |⟨xs,rfl,a,vs,rfl,_⟩
 ·cases h <;> rfl
 ·rfl
theorem zv8:OpD X (compareOp .Is) ztv:=OpD.of zs6 λx y H a b Q ra rb q=>by
 cases b with
 |none=>cases rb.none;refine⟨rfl,.bool (isNone a),Same.refl _,?_,q⟩;rw[zjb ra];exact .bl
 |_=>exact q.elim
def inD(x:D)(ys:List D):Bool:=ys.any λy=>PyData.eqv y x
def gIn(neg:Bool):DOp:=λa b Q=>match b with
 |.list ys=>Lay a/\Lay (.list ys)/\Q (.bool (if neg then !inD a ys else inD a ys))
 |.tuple ys=>Lay a/\Lay (.tuple ys)/\Q (.bool (if neg then !inD a ys else inD a ys))
 |_=>False
theorem Lay.all{xs:List D}(h:Lay (.list xs)):PyData.canLayAll0 xs=true:=by simpa[PyData.canLay0]using h.can
theorem Lay.allT{xs:List D}(h:Lay (.tuple xs)):PyData.canLayAll0 xs=true:=by simpa[PyData.canLay0]using h.can
theorem zxb{k:Nat}(hr:Room k X.A):OpD X (compareOp .In) (gIn false):=⟨λpins s σ H x y v u a b Q I rx ry ra rb q=>by
 have hu:=hr.un
 cases b with
 |list ys=>
  obtain⟨as,e1⟩:=ra.reads I rx q.1.can;obtain⟨bs,e2⟩:=rb.reads I ry q.2.1.can;have:=q.1.deep;exact SeqAt.in_list_reads e2 e1 q.2.1.all q.1.can (by omega) ⟨.bl _,H,_,I,rfl,Same.refl _,.bl,q.2.2⟩
 |tuple ys=>
  obtain⟨as,e1⟩:=ra.reads I rx q.1.can;obtain⟨bs,e2⟩:=rb.reads I ry q.2.1.can;have:=q.1.deep;exact SeqAt.in_tuple_reads e2 e1 q.2.1.allT q.1.can (by omega) ⟨.bl _,H,_,I,rfl,Same.refl _,.bl,q.2.2⟩
 |_=>exact q.elim⟩
end
structure CallD(X:Cx)(f:Value)(g:List D->(D->Prop)->Prop):Prop where
 run:∀(pins:List (Addr×Obj)) (s:Shared) (σ:St) (H:Hp) (vs:List V) (us:List Value) (ds:List D) (Q:D->Prop),Inv X pins σ H s->Vals vs us->RepTs X.K H ds vs->g ds Q->wpAny (model X.prog X.w) X.A (call f us) (DEnd X pins σ H Q) X.xe s
structure CallF(X:Cx)(f:Value)(g:List D->(List D->Prop)->Prop):Prop where
 run:∀(pins:List (Addr×Obj)) (s:Shared) (σ:St) (H:Hp) (vs:List V) (us:List Value) (ds:List D) (Q:List D->Prop),Inv X pins σ H s->Vals vs us->RepTs X.K H ds vs->g ds Q->wpAny (model X.prog X.w) X.A (call f us) (zdx X pins σ H Q) X.xe s
def dCB(g:List D->(D->Prop)->Prop)(t:DTF):DTE:=λσ Q=>t σ λds=>g ds Q
def dCF(g:List D->(List D->Prop)->Prop)(t:DTF):DTF:=λσ Q=>t σ λds=>g ds Q
section
variable {X:Cx}{f:Value}{g:List D->(D->Prop)->Prop}{gf:List D->(List D->Prop)->Prop}{e:Expr}{es:List Expr}{t:DTF}{x:Str}{p pos:Pos}
theorem CallD.of{r:List V->Hp->VK->Prop}(h:qu X f r)(k:∀vs H ds Q,RepTs X.K H ds vs->g ds Q->r vs H (λv H'=>∃d,Same H H'/\Rep X.K H' d v/\Q d)):CallD X f g :=
 ⟨λpins s σ H vs us ds Q I rv rd q=>thn (h pins s σ H vs us _ I rv (k vs H ds Q rd q)) λw s' zq93=>by obtain⟨z,H',I',rz,d,sm,rp,qd⟩:=zq93;exact⟨z,H',d,I',rz,sm,rp,qd⟩⟩
theorem CallD.cr(h:CallD X f g):qu X f (λvs H Q=>∃ds QD,RepTs X.K H ds vs/\g ds QD/\∀v H' d,Same H H'->Rep X.K H' d v->QD d->Q v H') :=
 λpins s σ H vs us Q I rv zq2=>by obtain⟨ds,QD,rd,q,k⟩:=zq2;exact thn (h.run pins s σ H vs us ds QD I rv rd q) λw s' zq0=>by obtain⟨z,H',d,I',rz,sm,rp,qd⟩:=zq0;exact⟨z,H',I',rz,k z H' d sm rp qd⟩
theorem CallF.cr(h:CallF X f gf):qu X f (λvs H Q=>∃ds QD,RepTs X.K H ds vs/\gf ds QD/\∀a H' ws xs,Same H H'->H a=none->H' a=some (.lst ws)->Reps X.K H' xs ws->QD xs->Q (.ref a) H') :=
 λpins s σ H vs us Q I rv zq2=>by obtain⟨ds,QD,rd,q,k⟩:=zq2;exact thn (h.run pins s σ H vs us ds QD I rv rd q) λw s' zq0=>by obtain⟨a,H',ws,xs,ew,I',sm,n,e,rp,qd⟩:=zq0;exact⟨.ref a,H',I',ew,k a H' ws xs sm n e rp qd⟩
theorem yt{id:String}(hc:CallD X (.builtin id) g)(hg:Gl X x)(hm:X.mg x=none)(hv:bootBuiltins x=some (.builtin id))(ha:DAv X (e::es) t)(hn:x ≠ "__name__" := by decide)(hdb:(x ==("__debug__" : Str))=false:=by decide)
  (he:starEach (e::es) X.env=(false,eval e X.env)::starEach es X.env:=by rfl) (hpl:(backTo pos (starEach es X.env)).any (·.1)=false:=by rfl):DE X (.Call (.Name x p) (e::es) [] pos) (dCB g t) :=
 DE.of (j5 hc.cr hg hm hv ha.pa hn hdb he hpl) λσ H H₀ σD QD ok q=>⟨H₀,σD,_,ok,q,λvs H1 ds s1 r1 q1=>⟨ds,_,r1,q1,λv H' d s2 rp qd=>⟨d,s1.trans s2,rp,qd⟩⟩⟩
theorem zbn{id:String}(hc:CallF X (.builtin id) gf)(hg:Gl X x)(hm:X.mg x=none)(hv:bootBuiltins x=some (.builtin id))(ha:DAv X (e::es) t)(hn:x ≠ "__name__" := by decide)(hdb:(x ==("__debug__" : Str))=false:=by decide)
  (he:starEach (e::es) X.env=(false,eval e X.env)::starEach es X.env:=by rfl) (hpl:(backTo pos (starEach es X.env)).any (·.1)=false:=by rfl):DF X (.Call (.Name x p) (e::es) [] pos) (dCF gf t) :=
 DF.of (j5 hc.cr hg hm hv ha.pa hn hdb he hpl) λσ H H₀ σD QD ok q=>⟨H₀,σD,_,ok,q,λvs H1 ds s1 r1 q1=>⟨ds,_,r1,q1,λa H' ws xs s2 n e rp qd=>⟨a,ws,xs,rfl,s1.trans s2,s1.free n,e,rp,qd⟩⟩⟩
theorem wo{id:String}(hc:CallD X (.type id) g)(hg:Gl X x)(hm:X.mg x=none)(hv:bootBuiltins x=some (.type id))(ha:DAv X (e::es) t)(hn:x ≠ "__name__" := by decide)(hdb:(x ==("__debug__" : Str))=false:=by decide)
  (he:starEach (e::es) X.env=(false,eval e X.env)::starEach es X.env:=by rfl) (hpl:(backTo pos (starEach es X.env)).any (·.1)=false:=by rfl):DE X (.Call (.Name x p) (e::es) [] pos) (dCB g t) :=
 DE.of (zma hc.cr hg hm hv ha.pa hn hdb he hpl) λσ H H₀ σD QD ok q=>⟨H₀,σD,_,ok,q,λvs H1 ds s1 r1 q1=>⟨ds,_,r1,q1,λv H' d s2 rp qd=>⟨d,s1.trans s2,rp,qd⟩⟩⟩
theorem RepTs.one{K:PySem.W.Frag}{H:Hp}{d:D}{vs:List V}(h:RepTs K H [d] vs):∃v,vs = [v]/\RepT K H d v:=by
 cases h with
 |cons r t=>cases t;exact⟨_,rfl,r⟩
theorem RepTs.two{K:PySem.W.Frag}{H:Hp}{d e:D}{vs:List V}(h:RepTs K H [d,e] vs):∃v w,vs = [v,w]/\RepT K H d v/\RepT K H e w:=by
 cases h with
 |cons r t=>cases t with
  |cons r2 t=>cases t;exact⟨_,_,rfl,r,r2⟩
def ztw:List D->(D->Prop)->Prop
 |[.str x],Q=>x.length<=sizeLine/\Q (.int x.length)
 |[.list xs],Q=>Q (.int xs.length)
 |[.tuple xs],Q=>Q (.int xs.length)
 |_,_=>False
theorem zbo:CallD X (.builtin "len") ztw:=CallD.of zno λvs H ds Q rd q=>by
 match ds,q,rd with
 |[.str x],q,rd=>
  obtain⟨v,rfl,r⟩:=rd.one
  cases r.str;exact⟨_,x.length,rfl,⟨q.1,rfl⟩,_,Same.refl _,.int,q.2⟩
 |[.list xs],q,rd=>
  obtain⟨v,rfl,r⟩:=rd.one;obtain⟨a,vs,rfl,h,r⟩:=r.list.sq;exact⟨_,xs.length,rfl,.inl ⟨vs,h,r.length⟩,_,Same.refl _,.int,q⟩
 |[.tuple xs],q,rd=>
  obtain⟨v,rfl,r⟩:=rd.one;obtain⟨a,vs,rfl,h,r⟩:=r.tuple;exact⟨_,xs.length,rfl,.inr ⟨vs,h,r.length⟩,_,Same.refl _,.int,q⟩
def ztx:List D->(D->Prop)->Prop
 |[.int i,.int j],Q=>Q (.int (min i j))
 |_,_=>False
def zty:List D->(D->Prop)->Prop
 |[.int i,.int j],Q=>Q (.int (max i j))
 |_,_=>False
theorem zaz(hc:X.calm=true):CallD X (.builtin "min") ztx:=CallD.of (zl7 hc) λvs H ds Q rd q=>by
 match ds,q,rd with
 |[.int i,.int j],q,rd=>
  obtain⟨v,w,rfl,r1,r2⟩:=rd.two
  cases r1.int
  cases r2.int;refine⟨i,j,rfl,_,Same.refl _,.int,?_⟩;have e:(if j<i then j else i)=min i j:=by split <;> omega
  rw[e];exact q
theorem zn8(hc:X.calm=true):CallD X (.builtin "max") zty:=CallD.of (zl6 hc) λvs H ds Q rd q=>by
 match ds,q,rd with
 |[.int i,.int j],q,rd=>
  obtain⟨v,w,rfl,r1,r2⟩:=rd.two
  cases r1.int
  cases r2.int;refine⟨i,j,rfl,_,Same.refl _,.int,?_⟩;have e:(if j > i then j else i)=max i j:=by split <;> omega
  rw[e];exact q
def ztz:List D->(D->Prop)->Prop
 |[.int i],Q=>Q (.int i)
 |[.bool b],Q=>Q (.int (if b then 1 else 0))
 |_,_=>False
theorem zv9:CallD X (.type "int") ztz:=CallD.of zl8 λvs H ds Q rd q=>by
 match ds,q,rd with
 |[.int i],q,rd=>
  obtain⟨v,rfl,r⟩:=rd.one
  cases r.int;exact .inl ⟨i,rfl,_,Same.refl _,.int,q⟩
 |[.bool i],q,rd=>
  obtain⟨v,rfl,r⟩:=rd.one
  cases r.bool;exact .inr ⟨i,rfl,_,Same.refl _,.int,q⟩
def zjc:List D->(D->Prop)->Prop
 |[.list xs],Q=>Q (.tuple xs)
 |[.tuple xs],Q=>Q (.tuple xs)
 |_,_=>False
theorem ku:CallD X (.type "tuple") zjc:=CallD.of ze5 λvs H ds Q rd q=>by
 match ds,q,rd with
 |[.list xs],q,rd=>
  obtain⟨v,rfl,r⟩:=rd.one;obtain⟨a,vs,rfl,h,r⟩:=r.list.sq;exact⟨a,vs,rfl,.inl ⟨h,λl hl=>⟨_,yk hl _,.tup (SqT.of z9) (r.same (yk hl _)),q⟩⟩⟩
 |[.tuple xs],q,rd=>
  obtain⟨v,rfl,r⟩:=rd.one;obtain⟨a,vs,rfl,h,r⟩:=r.tuple;exact⟨a,vs,rfl,.inr ⟨h,_,Same.refl _,.tup h r,q⟩⟩
def zcs:List D->Option (List Int)
 |[]=>some []
 |.int i::r=>(zcs r).map (i :: ·)
 |_::_=>none
def j7:List D->Option (List Bool)
 |[]=>some []
 |.bool i::r=>(j7 r).map (i :: ·)
 |_::_=>none
theorem zfo(ns:List Int):zcs (ns.map PyData.int)=some ns:=by
 induction ns with
 |nil=>rfl
 |cons n ns ih=>simp[zcs,ih]
theorem zjd(ns:List Bool):j7 (ns.map PyData.bool)=some ns:=by
 induction ns with
 |nil=>rfl
 |cons n ns ih=>simp[j7,ih]
theorem zfp{K:PySem.W.Frag}{H:Hp}:∀{xs:List D}{vs:List V}{ns:List Int},Reps K H xs vs->zcs xs=some ns->vs=ns.map V.int
 |[],_,ns,r,e=>by cases r;simp[zcs]at e;subst e;rfl
 |x::xs,_,ns,r,e=>by
  cases r with
  |cons r t=>
   cases x with
   |int i=>
    simp only[zcs,Option.map_eq_some_iff]at e;obtain⟨ms,e1,rfl⟩:=e
    cases r;rw[zfp t e1];rfl
   |_=>simp[zcs]at e
theorem zd0{K:PySem.W.Frag}{H:Hp}:∀{xs:List D}{vs:List V}{ns:List Bool},Reps K H xs vs->j7 xs=some ns->vs=ns.map V.bl
 |[],_,ns,r,e=>by cases r;simp[j7]at e;subst e;rfl
 |x::xs,_,ns,r,e=>by
  cases r with
  |cons r t=>
   cases x with
   |bool i=>
    simp only[j7,Option.map_eq_some_iff]at e;obtain⟨ms,e1,rfl⟩:=e
    cases r;rw[zd0 t e1];rfl
   |_=>simp[j7]at e
def zt0:List D->(D->Prop)->Prop
 |[.list xs],Q=>∃ns,zcs xs=some ns/\Q (.int ns.sum)
 |_,_=>False
theorem zsa(hc:X.calm=true):CallD X (.builtin "sum") zt0:=CallD.of (znt hc) λvs H ds Q rd q=>by
 match ds,q,rd with
 |[.list xs],q,rd=>
  obtain⟨v,rfl,r⟩:=rd.one;obtain⟨a,vs,rfl,h,r⟩:=r.list.sq;obtain⟨ns,e,q⟩:=q
  cases zfp r e;exact⟨a,ns,rfl,h,_,Same.refl _,.int,q⟩
def zt1:List D->(D->Prop)->Prop
 |[.list xs],Q=>∃ns,j7 xs=some ns/\Q (.bool (ns.any id))
 |_,_=>False
theorem zwa(hc:X.calm=true):CallD X (.builtin "any") zt1:=CallD.of (znv hc) λvs H ds Q rd q=>by
 match ds,q,rd with
 |[.list xs],q,rd=>
  obtain⟨v,rfl,r⟩:=rd.one;obtain⟨a,vs,rfl,h,r⟩:=r.list.sq;obtain⟨ns,e,q⟩:=q
  cases zd0 r e;exact⟨a,ns,rfl,h,_,Same.refl _,.bl,q⟩
def isD:String->D->Bool
 | "int",.int _=>true
 | "int",.bool _=>true
 | "bool",.bool _=>true
 | "str",.str _=>true
 | "list",.list _=>true
 | "tuple",.tuple _=>true
 | "dict",.dict _=>true
 |_,_=>false
def tyD:D->String
 |.none=> "NoneType"
 |.bool _=> "bool"
 |.int _=> "int"
 |.str _=> "str"
 |.list _=> "list"
 |.tuple _=> "tuple"
 |.dict _=> "dict"
theorem zje{pins:List (Addr×Obj)}{σ:St}{H:Hp}{s:Shared}{A:Around}{E:Value->Shared->Prop}{Q:Value->Shared->Prop}{c:Value}{b:Bool}{d:D}{v:V}{u:Value}(I:Inv X pins σ H s)(rp:RepT X.K H d v)(ru:RelV v u)(e:PySem.W.kitOne X.K (.type (tyD d)) c=some b)
  (h:∀tk,Q (.bool b) { s with toks:=tk }):wpAny (model X.prog X.w) A (call (.builtin "isinstance") [u,c]) Q E s:=by
 rcases rp with rp |⟨xs,rfl,a,vs,rfl,hr,_⟩
 ·cases rp with
  |non=>cases ru;exact PySem.W.kia_one PySem.W.kitx_none I.kIn True.intro e (λz=>nomatch z) h
  |bl=>cases ru;exact PySem.W.kia_one PySem.W.kitx_bool I.kIn True.intro e (λz=>nomatch z) h
  |int=>obtain⟨t,rfl⟩:=ru;exact PySem.W.kia_one PySem.W.kitx_int I.kIn True.intro e (λz=>nomatch z) h
  |str=>obtain⟨t,rfl⟩:=ru;exact PySem.W.kia_one PySem.W.kitx_str I.kIn True.intro e (λz=>nomatch z) h
  |tup q r=>
   cases ru;obtain⟨its,_,⟨o,h1,h2,_⟩,_⟩:=I.tuple q;exact PySem.W.kia_one PySem.W.kitx_tuple I.kIn ⟨o,h1,h2⟩ e (λz=>nomatch z) h
  |lst q r=>
   cases ru;obtain⟨_,_,_,n,_,h1⟩:=I.hok _ _ q;exact PySem.W.kia_one PySem.W.kitx_list I.kIn ⟨_,h1,rfl⟩ e (λz=>nomatch z) h
  |dic q r=>
   cases ru;obtain⟨_,_,_,vs,_,o,es,ep,h1,h2,_⟩:=I.hok _ _ q;exact PySem.W.kia_one PySem.W.kitx_dict I.kIn ⟨o,h1,h2.1⟩ e (λz=>nomatch z) h
 ·cases ru;obtain⟨_,_,n,_,h1⟩:=hr.ok I.hok;exact PySem.W.kia_one PySem.W.kitx_list I.kIn ⟨_,h1,rfl⟩ e (λz=>nomatch z) h
def dIs(n:String)(t:DTE):DTE:=λσ Q=>t σ λd=>Q (.bool (isD n d))
theorem zgj{n:String}{ta:DTE}{x2:Str}{p2:Pos}(hk:∀d:D,PySem.W.kitOne X.K (.type (tyD d)) (.type n)=some (isD n d))(hg:Gl X "isinstance")(hm:X.mg "isinstance" = none)(hv:bootBuiltins "isinstance" = some (.builtin "isinstance"))(ha:DV X e ta)
  (hg2:Gl X x2) (hm2:X.mg x2=none) (hv2:bootBuiltins x2=some (.type n)) (hn2:x2 ≠ "__name__" := by decide) (hdb2:(x2 ==("__debug__" : Str))=false:=by decide)
  (he:starEach (e :: [.Name x2 p2]) X.env=(false,eval e X.env)::starEach [.Name x2 p2] X.env:=by rfl) (he2:starEach [.Name x2 p2] X.env=(false,eval (.Name x2 p2) X.env)::starEach [] X.env:=by rfl) (hpl:(backTo pos (starEach [.Name x2 p2] X.env)).any (·.1)=false:=by rfl):DE X (.Call (.Name "isinstance" p) [e,.Name x2 p2] [] pos) (dIs n ta):=by
 have hc:qu X (.builtin "isinstance") (λvs H Q=>∃d v,vs = [v,.ty n]/\RepT X.K H d v/\Q (.bl (isD n d)) H):=λpins s σ H xs us Q I rv zq28=>by
  obtain⟨d,v,e,r,q⟩:=zq28;subst e;obtain⟨u,w,rfl,r1,r2⟩:=rv.two
  cases r2;exact zje I r r1 (hk d) λtk=>⟨.bl (isD n d),H,I.tok tk,rfl,q⟩
 refine DE.of (j5 hc hg hm hv (xv ha.pe (xv (zp4 (v:=.ty n) hg2 hm2 hv2 rfl hn2 hdb2) vz he2) he) (by decide) (by decide) he hpl) λσ H H₀ σD QD ok q=>?_;exact⟨H₀,σD,_,ok,q,λv H1 d s1 r1 q1=>⟨d,v,rfl,r1,_,s1,.bl,q1⟩⟩
theorem zwb{K:PySem.W.Frag}(d:D):PySem.W.kitOne K (.type (tyD d)) (.type "int")=some (isD "int" d):=by cases d <;> rfl
theorem zt2{K:PySem.W.Frag}(d:D):PySem.W.kitOne K (.type (tyD d)) (.type "bool")=some (isD "bool" d):=by cases d <;> rfl
theorem zsb{K:PySem.W.Frag}(d:D):PySem.W.kitOne K (.type (tyD d)) (.type "str")=some (isD "str" d):=by cases d <;> rfl
variable {a b:Expr}{ta tb:DTE}
def gIx:DOp
 |.list xs,.int i,Q=>∃d,atI xs i=some d/\Q d
 |.tuple xs,.int i,Q=>∃d,atI xs i=some d/\Q d
 |.str x,.int i,Q=>x.length<=sizeLine/\∃c,atI x.cps.toList i=some c/\Q (.str ⟨#[c]⟩)
 |_,_,_=>False
theorem zku{K:PySem.W.Frag}{H:Hp}{xs:List D}{vs:List V}{i:Int}{d:D}(r:Reps K H xs vs)(h:atI xs i=some d):∃v,atI vs i=some v/\Rep K H d v:=by
 unfold atI at h ⊢;rw[<-r.length]
 cases e:ixN xs.length i with
 |none=>rw[e]at h;cases h
 |some j=>
  rw[e]at h;exact r.get h
theorem z0(ha:DV X a ta)(hb:DE X b tb)(hs:zam b):DE X (.Subscript a b pos) (dOp gIx ta tb) :=
 DE.of (j6 ztd ha.pe hb.pe hs) λσ H H₀ σD QD ok q=>⟨H₀,σD,_,ok,q,λv H1 d s1 r1 q1=>⟨H₀,σD,_,ok.after s1,q1,λw H2 d2 s2 r2 q2=>by
  have r1:=r1.same s2;have sm:=s1.trans s2
  cases d2 with
  |int i=>
   cases r2
   cases d with
   |list xs=>
    obtain⟨l,vs,rfl,hl,r⟩:=r1.list.sq;obtain⟨d,e,q⟩:=q2;obtain⟨x,e1,e2⟩:=zku r e;exact .inl ⟨l,vs,i,x,rfl,rfl,hl,e1,d,sm,e2,q⟩
   |tuple xs=>
    obtain⟨l,vs,rfl,hl,r⟩:=r1.tuple;obtain⟨d,e,q⟩:=q2;obtain⟨x,e1,e2⟩:=zku r e;exact .inr (.inl ⟨l,vs,i,x,rfl,rfl,hl,e1,d,sm,e2,q⟩)
   |str x=>
    cases r1.str;obtain⟨hz,c,e,q⟩:=q2;exact .inr (.inr ⟨x,i,c,rfl,rfl,hz,e,_,sm,.str,q⟩)
   |_=>exact q2.elim
  |_=>cases d <;> exact q2.elim⟩⟩
abbrev DTO:=DSt->(Option Int->Prop)->Prop
structure DO(X:Cx)(e:Option Expr)(t:DTO):Prop where
 po:PO X e (λσ H Q=>∃H₀ σD QD,DOk X.K H₀ H σD σ/\t σD QD/\∀o H',Same H H'->QD o->Q o H')
def zgk:DTO:=λ_ Q=>Q none
def zn9(t:DTE):DTO:=λσ Q=>t σ λd=>match d with
 |.int i=>Q (some i)
 |_=>False
theorem zkv:DO X none zgk:=⟨λpins s σ H Q I zq40=>by obtain⟨H₀,σD,QD,ok,q,k⟩:=zq40;exact zqb pins s σ H Q I (k none H (Same.refl _) q)⟩
theorem zdh(h:DE X a ta):DO X (some a) (zn9 ta):=⟨λpins s σ H Q I ⟨H₀,σD,QD,ok,q,k⟩=>zqc h.pe pins s σ H Q I ⟨H₀,σD,_,ok,q,λv H1 d s1 r1 q1=>by
 cases d with
 |int i=>cases r1;exact⟨i,rfl,k _ _ s1 q1⟩
 |_=>exact q1.elim⟩⟩
def jb(xs:List D)(lo hi:Option Int):List D:=(xs.drop (HT.sIx xs.length 0 lo)).take (HT.sIx xs.length xs.length hi-HT.sIx xs.length 0 lo)
theorem Reps.cut{K:PySem.W.Frag}{H:Hp}{xs:List D}{vs:List V}(r:Reps K H xs vs)(lo hi:Option Int):Reps K H (jb xs lo hi) (ze3 vs lo hi):=by
 unfold jb ze3;rw[<-r.length];exact(r.drop _).take _
variable {lo hi:Option Expr}{tl th:DTO}{p2:Pos}
theorem zqq:SlR X (λx lo hi H Q=>∃a xs,x=.ref a/\SqT X.K H a xs/\∀p H',Same H H'->SqT X.K H' p (ze3 xs lo hi)->Q (.ref p) H'):=by
 intro pins s σ H x v vl vu lo hi sl Q I rx hs pl pu h;obtain⟨a,xs,rfl,hx,q⟩:=h
 by_cases hw:HT.sIx xs.length 0 lo=0/\HT.sIx xs.length xs.length hi=xs.length
 ·cases rx;obtain⟨its,r,ht,hz⟩:=I.tuple hx;have hlen:its.toArray.size=xs.length:=by rw[List.size_toArray];exact r.length.symm
  refine⟨"tuple",_,PyProof.Rows.slot_tuple_getitem.lookup,ht.typeIs,zmj ht hs pl pu (by rw[hlen];exact hw.1) (by rw[hlen];exact hw.2) ⟨.ref a,H,I,rfl,q a H (Same.refl H) ?_⟩⟩;unfold ze3;rw[hw.1,hw.2,List.drop_zero,Nat.sub_zero,List.take_length];exact hx
 ·exact ztb pins s σ H (.ref a) v vl vu lo hi sl Q I rx hs pl pu ⟨a,xs,rfl,hx,hw,λp hp=>q p _ (yk hp _) (SqT.of z9)⟩
def dSl(te:DTE)(tl th:DTO):DTE:=λσ Q=>te σ λd=>tl σ λl=>th σ λu=>match d with
 |.list xs=>Q (.list (jb xs l u))
 |.tuple xs=>Q (.tuple (jb xs l u))
 |_=>False
theorem zhp(he:DV X e ta)(hl:DO X lo tl)(hu:DO X hi th):DE X (.Subscript e (.Slice lo hi none p2) pos) (dSl ta tl th):=⟨λpins s σ H H₀ σD Q I ok q=>by
 refine thn (zhg (SlR.or zkp zqq) he.pe hl.po hu.po pins s σ H (λv H'=>(∃d,Same H H'/\Rep X.K H' d v/\Q d)\/∃p vs xs,v=.ref p/\Same H H'/\H p=none/\H' p=some (.lst vs)/\Reps X.K H' xs vs/\Q (.list xs)) I ?_) λu s' ⟨v,H',I',r,z⟩=>?_
 ·exact⟨H₀,σD,_,ok,q,λv H1 d s1 r1 q1=>⟨H₀,σD,_,ok.after s1,q1,λl H2 s2 q2=>⟨H₀,σD,_,(ok.after s1).after s2,q2,λu H3 s3 q3=>by
   cases d with
   |list xs=>
    obtain⟨b,vs,rfl,hb,r⟩:=((r1.same s2).same s3).list.sq;exact .inl ⟨b,vs,rfl,hb,λp hp=>.inr ⟨p,_,_,rfl,((s1.trans s2).trans s3).trans (yk hp _),((s1.trans s2).trans s3).free hp,z9,(r.cut l u).same (yk hp _),q3⟩⟩
   |tuple xs=>
    obtain⟨b,vs,rfl,hb,r⟩:=((r1.same s2).same s3).tuple;exact .inr ⟨b,vs,rfl,hb,λp H4 s4 e4=>.inl ⟨_,((s1.trans s2).trans s3).trans s4,.tup e4 ((r.cut l u).same s4),q3⟩⟩
   |_=>exact q3.elim⟩⟩⟩
 ·rcases z with⟨d,sm,rp,qd⟩ |⟨p,vs,xs,rfl,sm,n,e,rp,qd⟩
  ·exact⟨v,H',d,I',r,sm,rp,qd⟩
  ·obtain⟨H'',J,sm',r'⟩:=zb7 I' sm n e rp;exact⟨.ref p,H'',.list xs,J,r,sm',r',qd⟩⟩
def zgl(i:Nat)(tl th:DTO):DTF:=λσ Q=>match σ[i]? with
 |some (some (.scr ns))=>tl σ λl=>th σ λu=>Q ((jb (ns.map PyData.int) l u))
 |_=>False
theorem zt3(i:Nat){x:Str}{pos':Pos}(hl:DO X lo tl)(hu:DO X hi th)(hN:X.N[i]?=some x:=by rfl)(hv:Vis X.env.scope x:=by first|exact Or.inl rfl|exact Or.inr (Or.inl rfl)|exact Or.inr (Or.inr rfl))(hd:(x ==("__debug__" : Str))=false:=by decide)
  (hcd:(x ==("__classdict__" : Str))=false:=by decide):DF X (.Subscript (.Name x pos') (.Slice lo hi none p2) pos) (zgl i tl th) :=
 DF.of (zhg zkp (wm (i:=i) hN hv hd hcd) hl.po hu.po) λσ H H₀ σD QD ok q=>by
  unfold zgl at q
  split at q
  ·next ns e=>
   obtain⟨b,e1,hb⟩:=ok.scr e;exact⟨_,e1,H₀,σD,_,ok,q,λl H2 s2 q2=>⟨H₀,σD,_,ok.after s2,q2,λu H3 s3 q3=>⟨b,_,rfl,s3.seq (s2.seq hb),λp hp=>⟨p,_,_,rfl,(s2.trans s3).trans (yk hp _),(s2.trans s3).free hp,z9,Reps.ints.cut l u,q3⟩⟩⟩⟩
  ·exact q.elim
def zdi(i:Nat):DTE:=λσ Q=>match σ[i]? with
 |some (some (.scr ns))=>Q (.int ns.length)
 |_=>False
theorem zml(i:Nat){x:Str}{pos':Pos}(hg:Gl X "len")(hm:X.mg "len" = none)(hN:X.N[i]?=some x:=by rfl)(hv:Vis X.env.scope x:=by first|exact Or.inl rfl|exact Or.inr (Or.inl rfl)|exact Or.inr (Or.inr rfl))(hd:(x ==("__debug__" : Str))=false:=by decide)
  (hcd:(x ==("__classdict__" : Str))=false:=by decide):DE X (.Call (.Name "len" p) [.Name x pos'] [] pos) (zdi i) :=
 DE.of (j5 zgf hg hm PySem.boot_len (xv (wm (i:=i) hN hv hd hcd) vz)) λσ H H₀ σD QD ok q=>by
  unfold zdi at q
  split at q
  ·next ns e=>
   obtain⟨b,e1,hb⟩:=ok.scr e;exact⟨_,e1,b,_,rfl,.inl hb,_,Same.refl _,.int,by rw[List.length_map];exact q⟩
  ·exact q.elim
def zgm(i:Nat)(tb:DTE):DTE:=λσ Q=>match σ[i]? with
 |some (some (.scr ns))=>tb σ λd=>match d with
  |.int k=>∃n,atI ns k=some n/\Q (.int n)
  |_=>False
 |_=>False
theorem zqr{α β:Type}(f:α->β)(xs:List α)(i:Int):atI (xs.map f) i=(atI xs i).map f:=by
 unfold atI;rw[List.length_map]
 cases ixN xs.length i with
 |none=>rfl
 |some j=>simp
theorem zoa(i:Nat){x:Str}{pos':Pos}(hb:DE X b tb)(hs:zam b)(hN:X.N[i]?=some x:=by rfl)(hv:Vis X.env.scope x:=by first|exact Or.inl rfl|exact Or.inr (Or.inl rfl)|exact Or.inr (Or.inr rfl))(hd:(x ==("__debug__" : Str))=false:=by decide)
  (hcd:(x ==("__classdict__" : Str))=false:=by decide):DE X (.Subscript (.Name x pos') b pos) (zgm i tb) :=
 DE.of (j6 ix_list (wm (i:=i) hN hv hd hcd) hb.pe hs) λσ H H₀ σD QD ok q=>by
  unfold zgm at q
  split at q
  ·next ns e=>
   obtain⟨b,e1,hb⟩:=ok.scr e;refine⟨_,e1,H₀,σD,_,ok,q,λw H2 d2 s2 r2 q2=>?_⟩
   cases d2 with
   |int k=>
    cases r2;obtain⟨n,en,q⟩:=q2;exact⟨b,_,k,.int n,rfl,rfl,s2.seq hb,by rw[zqr,en];rfl,_,s2,.int,q⟩
   |_=>exact q2.elim
  ·exact q.elim
end
structure ItOk(K:PySem.W.Frag)(Kp:Hp->Hp->Prop)(J:It)(H1:Hp)(ds:List D):Prop where
 go:∀H i d,Kp H1 H->ds[i]?=some d->J.go i H/\∀x H',J.yld i H x H'->Same H H'/\Rep K H' d x
 stop:∀H,Kp H1 H->J.stop ds.length H
theorem ItOk.weak{K:PySem.W.Frag}{J:It}{H1:Hp}{ds:List D}(h:ItOk K Pers J H1 ds):ItOk K Same J H1 ds:=⟨λH i d s=>h.go H i d s.pers,λH s=>h.stop H s.pers⟩
def cnI(K:PySem.W.Frag)(Kp:Hp->Hp->Prop)(t:DTF):TI:=λσ H R=>∃H₀ σD QD,DOk K H₀ H σD σ/\t σD QD/\∀J H1 ds,Same H H1->ItOk K Kp J H1 ds->QD ds->R J H1
structure DI(X:Cx)(tg iter:Expr)(t:DTF):Prop where
 pi:PI X tg iter (cnI X.K Pers t)
structure DIw(X:Cx)(tg iter:Expr)(t:DTF):Prop where
 pi:PI X tg iter (cnI X.K Same t)
section
variable {X:Cx}{tg iter e:Expr}{t:DTF}{te:DTE}{p pos:Pos}
theorem DI.w(h:DI X tg iter t):DIw X tg iter t:=⟨λpins s σ H R I zq56=>by obtain⟨H₀,σD,QD,ok,q,k⟩:=zq56;exact h.pi pins s σ H R I ⟨H₀,σD,QD,ok,q,λJ H1 ds s1 o qd=>k J H1 ds s1 o.weak qd⟩⟩
theorem zob{l:Expr}{tl:TE}(hl:PE X l tl):PI X tg l (λσ H R=>tl σ H λx H1=>(∃a xs,x=.ref a/\SqL X.K H1 a xs/\R (Itl X.K a) H1)\/∃a xs,x=.ref a/\SqT X.K H1 a xs/\R (Itt X.K a) H1):=by
 intro pins s σ H R I h;refine thn (hl pins s σ H _ I h) λv s1 zr22=>?_;obtain⟨x,H1,I1,r1,q1⟩:=zr22;rcases q1 with⟨a,xs,e,hq,q⟩ |⟨a,xs,e,hq,q⟩
 ·subst e
  cases r1;obtain⟨its,rv,p,hz⟩:=I1.list hq;refine wpAny_pyIter_list p.isList ?_;refine⟨s1.heap.objs.size,[s1.heap.objs.size],_,_,H1,rfl,I1.kept (t':=s1.toks) λb o e=>Heap.get?_push_of_some _ e,zl2 a _,⟨_,Heap.get?_push_size _ rfl,rfl,rfl⟩,λb hb=>?_,q⟩;have e:b=s1.heap.objs.size:=by simpa using hb
  subst e;exact I1.fpOk (Nat.le_refl _) (I1.hok.fresh (Nat.le_refl _))
 ·subst e
  cases r1;obtain⟨its,rv,p,hz⟩:=I1.tuple hq;refine wpAny_pyIter_tuple (show s1.heap.IsTuple a its.toArray from p) ?_;refine⟨s1.heap.objs.size,[s1.heap.objs.size],_,_,H1,rfl,I1.kept (t':=s1.toks) λb o e=>Heap.get?_push_of_some _ e,ziw a _,⟨_,Heap.get?_push_size _ rfl,rfl,rfl⟩,λb hb=>?_,q⟩;have e:b=s1.heap.objs.size:=by simpa using hb
  subst e;exact I1.fpOk (Nat.le_refl _) (I1.hok.fresh (Nat.le_refl _))
def zkw(te:DTE):DTF:=λσ Q=>te σ λd=>match d with
 |.list xs=>Q xs
 |.tuple xs=>Q xs
 |_=>False
theorem zoc{K:PySem.W.Frag}{Kp:Hp->Hp->Prop}{H1:Hp}{a:Addr}{xs:List D}{vs:List V}(kp:∀H,Kp H1 H->SqL K H a vs/\Reps K H xs vs):ItOk K Kp (Itl K a) H1 xs where
 go:=λH i d k e=>by
  obtain⟨hs,r⟩:=kp H k;obtain⟨v,e1,r1⟩:=r.get e;refine⟨⟨vs,v,hs,e1⟩,λx H' y=>?_⟩;obtain⟨rfl,y⟩:=y;have:=y vs hs;rw[e1]at this
  cases this;exact⟨Same.refl _,r1⟩
 stop:=λH k=>by
  obtain⟨hs,r⟩:=kp H k;exact⟨vs,hs,by rw[r.length];exact Nat.le_refl _⟩
theorem zod{K:PySem.W.Frag}{Kp:Hp->Hp->Prop}{H1:Hp}{a:Addr}{xs:List D}{vs:List V}(kp:∀H,Kp H1 H->SqT K H a vs/\Reps K H xs vs):ItOk K Kp (Itt K a) H1 xs where
 go:=λH i d k e=>by
  obtain⟨hs,r⟩:=kp H k;obtain⟨v,e1,r1⟩:=r.get e;refine⟨⟨vs,v,hs,e1⟩,λx H' y=>?_⟩;obtain⟨rfl,y⟩:=y;have:=y vs hs;rw[e1]at this
  cases this;exact⟨Same.refl _,r1⟩
 stop:=λH k=>by
  obtain⟨hs,r⟩:=kp H k;exact⟨vs,hs,by rw[r.length];exact Nat.le_refl _⟩
theorem Pers.sqF{K:PySem.W.Frag}{H H':Hp}{a:Addr}{o:Obj}{vs:List V}(p:Pers H H')(h:H a=some (.frz o (.lst vs))):SqL K H' a vs:=.inl (.inr ⟨o,p _ _ h rfl⟩)
theorem zb8(h:DE X e te):DI X tg e (zkw te):=⟨λpins s σ H R I ⟨H₀,σD,QD,ok,q,k⟩=>zob h.pe pins s σ H R I ⟨H₀,σD,_,ok,q,λv H1 d s1 r1 q1=>by
 cases d with
 |list xs=>
  cases r1 with
  |lst hf r=>exact .inl ⟨_,_,rfl,.inl (.inr ⟨_,hf⟩),k _ _ xs s1 (zoc λH' pr=>⟨pr.sqF hf,r.mono pr⟩) q1⟩
 |tuple xs=>
  cases r1 with
  |tup hf r=>exact .inr ⟨_,_,rfl,hf,k _ _ xs s1 (zod λH' pr=>⟨pr.sqT hf,r.mono pr⟩) q1⟩
 |_=>exact q1.elim⟩⟩
theorem RepL.sq'{K:PySem.W.Frag}{H H':Hp}{a:Addr}{vs:List V}(s:Same H H')(h:Rd H a (.lst vs)):SqL K H' a vs:=by
 rcases h with h |⟨o,h⟩
 ·exact .inl (.inl (s _ _ h))
 ·exact .inl (.inr ⟨o,s _ _ h⟩)
theorem wr(h:DV X e te):DIw X tg e (zkw te):=⟨λpins s σ H R I ⟨H₀,σD,QD,ok,q,k⟩=>zob h.pe pins s σ H R I ⟨H₀,σD,_,ok,q,λv H1 d s1 r1 q1=>by
 cases d with
 |list xs=>
  obtain⟨a,vs,rfl,hf,r⟩:=r1.list;exact .inl ⟨_,_,rfl,.inl hf,k _ _ xs s1 (zoc λH' pr=>⟨RepL.sq' pr hf,r.same pr⟩) q1⟩
 |tuple xs=>
  obtain⟨a,vs,rfl,hf,r⟩:=r1.tuple;exact .inr ⟨_,_,rfl,hf,k _ _ xs s1 (zod λH' pr=>⟨pr.pers.sqT hf,r.same pr⟩) q1⟩
 |_=>exact q1.elim⟩⟩
def y3(lo:Int)(n:Nat):List D:=(List.range n).map λi=>.int (lo+(i:Nat))
theorem zoe{K:PySem.W.Frag}{Kp:Hp->Hp->Prop}{H1:Hp}(lo:Int)(n:Nat):ItOk K Kp (Itr lo n) H1 (y3 lo n) where
 go:=λH i d k e=>by
  have hi:i<n:=by have:=(List.getElem?_eq_some_iff.mp e).1;simpa[y3]using this
  refine⟨hi,λx H' y=>?_⟩;obtain⟨rfl,rfl⟩:=y;refine⟨Same.refl _,?_⟩;simp[y3,List.getElem?_map,List.getElem?_range hi]at e;subst e;exact .int
 stop:=λH k=>by
  show n<=(y3 lo n).length;simp[y3]
def zgn(ta:DTF):DTF:=λσ Q=>ta σ λds=>match ds with
 |[.int j]=>(-(2 ^ 62)<=j/\j<2 ^ 62)/\Q (y3 0 j.toNat)
 |_=>False
def zgo(ta:DTF):DTF:=λσ Q=>ta σ λds=>match ds with
 |[.int i,.int j]=>(-(2 ^ 62)<=i/\i<2 ^ 62/\-(2 ^ 62)<=j/\j<2 ^ 62)/\Q (y3 i (j-i).toNat)
 |_=>False
variable {a b:Expr}
theorem v4(hg:Gl X "range")(hm:X.mg "range" = none)(ha:DA X [a] t)(hs:starEach [a] X.env = [(false,eval a X.env)]:=by rfl):DI X tg (.Call (.Name "range" p) [a] [] pos) (zgn t) :=
 ⟨λpins s σ H R I ⟨H₀,σD,QD,ok,q,k⟩=>zl3 hg hm ha.pa hs pins s σ H R I ⟨H₀,σD,_,ok,q,λvs H1 ds s1 r1 q1=>by
  match ds,r1,q1 with
  |[.int j],r1,q1=>
   cases r1 with
   |cons r t=>
    cases t
    cases r;exact⟨j,rfl,q1.1.1,q1.1.2,k _ _ _ s1 (zoe 0 j.toNat) q1.2⟩⟩⟩
theorem zmm(hg:Gl X "range")(hm:X.mg "range" = none)(ha:DA X [a,b] t)(hs:starEach [a,b] X.env = [(false,eval a X.env),(false,eval b X.env)]:=by rfl)(hs2:starEach [b] X.env = [(false,eval b X.env)]:=by rfl):DI X tg (.Call (.Name "range" p) [a,b] [] pos) (zgo t) :=
 ⟨λpins s σ H R I ⟨H₀,σD,QD,ok,q,k⟩=>zl4 hg hm ha.pa hs hs2 pins s σ H R I ⟨H₀,σD,_,ok,q,λvs H1 ds s1 r1 q1=>by
  match ds,r1,q1 with
  |[.int i,.int j],r1,q1=>
   cases r1 with
   |cons r t=>
    cases t with
    |cons r2 t=>
     cases t
     cases r
     cases r2;exact⟨i,j,rfl,q1.1,k _ _ _ s1 (zoe i (j-i).toNat) q1.2⟩⟩⟩
def zb9(xs ys:List D):List D:=List.zipWith (λa b=>.tuple [a,b]) xs ys
theorem zqs{elts:List Expr}{x1}{tpos:Pos}{ta:TA}(hg:Gl X "zip")(hm:X.mg "zip" = none)(ha:PA X [a,b] ta)(hb:bootBuiltins "zip" = some (.type "zip"):=by first|exact boot_zip|rfl|decide +kernel)(hs:starEach [a,b] X.env = [(false,eval a X.env),(false,eval b X.env)]:=by rfl)(hs2:starEach [b] X.env = [(false,eval b X.env)]:=by rfl):
  PI X (.Tuple elts x1 tpos) (.Call (.Name "zip" p) [a,b] [] pos) (λσ H R=>ta σ H λvs H1=>∃b1 b2 a b,vs = [.ref a,.ref b]/\(∃xs,SqG b1 X.K H1 a xs)/\(∃ys,SqG b2 X.K H1 b ys)/\R (Izg b1 b2 X.K a b) H1):=by
 intro pins s σ H R I h;refine Call_ (kx I hg hm hb (PyProof.Rows.callWith_type1 (thn (ha pos pins s σ H _ I h) λus s1 ⟨vs,H1,I1,r1,q1⟩=>?_) (by rw[hs,hs2]) (by rw[hs2];rfl)));obtain⟨b1,b2,l1,l2,e,⟨xs,hq1⟩,⟨ys,hq2⟩,q⟩:=q1;subst e;obtain⟨v1,v2,rfl,r1',r2'⟩:=r1.two
 cases r1'
 cases r2';obtain⟨its1,rv1,p1,hz1⟩:=I1.sqG hq1;obtain⟨its2,rv2,p2,hz2⟩:=I1.sqG hq2;refine zmh p1 p2 λh' hz hTI hTO hi1 hi2 hk=>wpAny_pyIter_zip hz ?_;have I2:Inv X pins σ H1 { s1 with heap:=h' }:=I1.kept (t':=s1.toks) hk;refine⟨_,[s1.heap.objs.size+4,s1.heap.objs.size+2,s1.heap.objs.size+3,s1.heap.objs.size,s1.heap.objs.size+1],_,_,H1,rfl,I2,zmi (zipApart_new p1.lt p2.lt),⟨hz,hTI,⟨_,_,hTO⟩,hi1,hi2⟩,λb hb=>?_,q⟩;have hb':s1.heap.objs.size<=b:=by
  simp only[List.mem_cons,List.not_mem_nil,or_false]at hb;rcases hb with rfl|rfl|rfl|rfl|rfl <;> omega
 exact I1.fpOk hb' (I1.hok.fresh hb')
theorem zt4{K:PySem.W.Frag}{Kp:Hp->Hp->Prop}{H1:Hp}{b1 b2:Bool}{l m:Addr}{xs ys:List D}{vs ws:List V}(kp:∀H,Kp H1 H->(SqG b1 K H l vs/\Reps K H xs vs)/\SqG b2 K H m ws/\Reps K H ys ws):ItOk K Kp (Izg b1 b2 K l m) H1 (zb9 xs ys) where
 go:=λH i d k e=>by
  obtain⟨⟨h1,r1⟩,h2,r2⟩:=kp H k;unfold zb9 at e;rw[List.getElem?_zipWith]at e
  cases ex:xs[i]? with
  |none=>rw[ex]at e;cases e
  |some x=>
   cases ey:ys[i]? with
   |none=>rw[ex,ey]at e;cases e
   |some y=>
    rw[ex,ey]at e
    cases e;obtain⟨v,e1,q1⟩:=r1.get ex;obtain⟨w,e2,q2⟩:=r2.get ey;refine⟨⟨vs,ws,v,w,h1,h2,e1,e2⟩,λz H' yl=>?_⟩;obtain⟨p,v',w',hp,rfl,rfl,y1,y2⟩:=yl;have z1:=y1 vs h1;have z2:=y2 ws h2;rw[e1]at z1;rw[e2]at z2
    cases z1
    cases z2;exact⟨yk hp _,.tup (SqT.of z9) (.cons (q1.same (yk hp _)) (.cons (q2.same (yk hp _)) .nil))⟩
 stop:=λH k=>by
  obtain⟨⟨h1,r1⟩,h2,r2⟩:=kp H k;refine⟨vs,ws,h1,h2,?_⟩;unfold zb9;rw[List.length_zipWith,<-r1.length,<-r2.length];omega
def zt5(t:DTF):DTF:=λσ Q=>t σ λds=>match ds with
 |[.list xs,.list ys]=>Q (zb9 xs ys)
 |[.list xs,.tuple ys]=>Q (zb9 xs ys)
 |[.tuple xs,.list ys]=>Q (zb9 xs ys)
 |[.tuple xs,.tuple ys]=>Q (zb9 xs ys)
 |_=>False
theorem Rep.seqP{K:PySem.W.Frag}{H:Hp}{d:D}{v:V}{xs:List D}(h:Rep K H d v)(e:d=.list xs\/d=.tuple xs):∃b a vs,v=.ref a/\∀H',Pers H H'->SqG b K H' a vs/\Reps K H' xs vs:=by
 cases h with
 |lst hf r=>
  rcases e with e|e
  ·cases e;exact⟨false,_,_,rfl,λH' p=>⟨p.sqF hf,r.mono p⟩⟩
  ·cases e
 |tup hf r=>
  rcases e with e|e
  ·cases e
  ·cases e;exact⟨true,_,_,rfl,λH' p=>⟨p.sqT hf,r.mono p⟩⟩
 |_=>rcases e with e|e <;> cases e
theorem RepT.seqS{K:PySem.W.Frag}{H:Hp}{d:D}{v:V}{xs:List D}(h:RepT K H d v)(e:d=.list xs\/d=.tuple xs):∃b a vs,v=.ref a/\∀H',Same H H'->SqG b K H' a vs/\Reps K H' xs vs:=by
 rcases h with h |⟨ys,rfl,a,vs,rfl,hf,r⟩
 ·obtain⟨b,a,vs,e,k⟩:=h.seqP e;exact⟨b,a,vs,e,λH' s=>k H' s.pers⟩
 ·rcases e with e|e
  ·cases e;exact⟨false,a,vs,rfl,λH' s=>⟨RepL.sq' s hf,r.same s⟩⟩
  ·cases e
theorem zmn {ds:List D}{Q:List D->Prop} (h:match ds with
 |[.list xs,.list ys]=>Q (zb9 xs ys)
 |[.list xs,.tuple ys]=>Q (zb9 xs ys)
 |[.tuple xs,.list ys]=>Q (zb9 xs ys)
 |[.tuple xs,.tuple ys]=>Q (zb9 xs ys)
 |_=>False):∃d1 d2 xs ys,ds = [d1,d2]/\(d1=.list xs\/d1=.tuple xs)/\(d2=.list ys\/d2=.tuple ys)/\Q (zb9 xs ys):=by
 split at h
 ·exact⟨_,_,_,_,rfl,.inl rfl,.inl rfl,h⟩
 ·exact⟨_,_,_,_,rfl,.inl rfl,.inr rfl,h⟩
 ·exact⟨_,_,_,_,rfl,.inr rfl,.inl rfl,h⟩
 ·exact⟨_,_,_,_,rfl,.inr rfl,.inr rfl,h⟩
 ·exact h.elim
theorem zqt{elts:List Expr}{x1}{tpos:Pos}(hg:Gl X "zip")(hm:X.mg "zip" = none)(ha:DAv X [a,b] t)(hs:starEach [a,b] X.env = [(false,eval a X.env),(false,eval b X.env)]:=by rfl)(hs2:starEach [b] X.env = [(false,eval b X.env)]:=by rfl):
  DIw X (.Tuple elts x1 tpos) (.Call (.Name "zip" p) [a,b] [] pos) (zt5 t) :=
 ⟨λpins s σ H R I ⟨H₀,σD,QD,ok,q,k⟩=>zqs hg hm ha.pa (by first|exact boot_zip|rfl|decide +kernel) hs hs2 pins s σ H R I ⟨H₀,σD,_,ok,q,λvs H1 ds s1 r1 q1=>by
  obtain⟨d1,d2,xs,ys,rfl,e1,e2,q2⟩:=zmn q1;obtain⟨v,w,rfl,r,r2⟩:=r1.two;obtain⟨b1,l,vs,rfl,k1⟩:=r.seqS e1;obtain⟨b2,m,ws,rfl,k2⟩:=r2.seqS e2;exact⟨b1,b2,l,m,rfl,⟨vs,(k1 _ (Same.refl _)).1⟩,⟨ws,(k2 _ (Same.refl _)).1⟩,k _ _ _ s1 (zt4 λH' pr=>⟨k1 H' pr,k2 H' pr⟩) q2⟩⟩⟩
def vj:Nat->List D->List D
 |_,[]=>[]
 |k,x::xs=>.tuple [.int k,x]::vj (k+1) xs
theorem zfq:∀{xs:List D}{k i:Nat}{x:D},(vj k xs)[i]?=some x->∃y,xs[i]?=some y/\x=.tuple [.int ((k+i:Nat):Int),y]
 |[],_,_,_,e=>by simp[vj]at e
 |y::ys,k,0,x,e=>by simp[vj]at e;subst e;exact⟨y,rfl,rfl⟩
 |y::ys,k,i+1,x,e=>by
  simp only[vj,List.getElem?_cons_succ]at e;obtain⟨z,e1,e2⟩:=zfq e;refine⟨z,by simpa using e1,?_⟩;rw[e2,show k+1+i=k+(i+1) by omega]
theorem zca:∀(k:Nat) (xs:List D),(vj k xs).length=xs.length
 |_,[]=>rfl
 |k,_::xs=>by simp[vj,zca (k+1) xs]
abbrev DTG:=D->DSt->(DSt->Prop)->Prop
abbrev zgp:=List D->DSt->(DSt->Prop)->Prop
structure DG(X:Cx)(tg:Expr)(is:List Nat)(g:DTG):Prop where
 run:∀(pins:List (Addr×Obj)) (s:Shared) (σ:St) (H H₀:Hp) (σD:DSt) (v:V) (u:Value) (d:D) (Q:DSt->Prop),Inv X pins σ H s->DOk X.K H₀ H σD σ->RelV v u->Rep X.K H d v->g d σD Q ->
  wpAny (model X.prog X.w) X.A (assign tg X.env u) (λ_ s'=>∃σ' σD',Inv X pins σ' H s'/\DOk X.K H₀ H σD' σ'/\(∀j,j∉is->σ'[j]?=σ[j]?)/\Q σD') X.xe s
structure DGs(X:Cx)(ts:List Expr)(is:List Nat)(g:zgp):Prop where
 run:∀(pins:List (Addr×Obj)) (s:Shared) (σ:St) (H H₀:Hp) (σD:DSt) (vs:List V) (us:List Value) (ds:List D) (Q:DSt->Prop),Inv X pins σ H s->DOk X.K H₀ H σD σ->Vals vs us->Reps X.K H ds vs->g ds σD Q ->
  wpAny (model X.prog X.w) X.A (assignInOrder ((assignEach ts X.env).map (·.2)) us) (λ_ s'=>∃σ' σD',Inv X pins σ' H s'/\DOk X.K H₀ H σD' σ'/\(∀j,j∉is->σ'[j]?=σ[j]?)/\Q σD') X.xe s
def zjf(i:Nat):DTG:=λd σ Q=>Q (σ.set i (some (.val d)))
theorem zf{i:Nat}{x:Str}(hN:X.N.Nodup)(hi:X.N[i]?=some x)(hx:Loc X.env.scope x)(hf:X.fn x=true\/X.env.scope.names.lookup x=some .local:=by first|exact .inl rfl|exact .inr rfl|assumption):DG X (.Name x pos) [i] (zjf i) :=
 ⟨λpins s σ H H₀ σD v u d Q I ok r rp q=>wpAny_assign_Name (zbi I hN hi hx r (λs' I'=>⟨_,_,I',ok.setV rp i,λj hj=>List.getElem?_set_ne (λz=>hj (by simp[z])),q⟩) hf)⟩
def zof:zgp:=λds σ Q=>ds = []/\Q σ
def zjg(g:DTG)(gs:zgp):zgp:=λds σ Q=>match ds with
 |d::r=>g d σ λσ'=>gs r σ' Q
 |[]=>False
theorem yj:DGs X [] [] zof:=⟨λpins s σ H H₀ σD vs us ds Q I ok r rp q=>by
 obtain⟨rfl,q⟩:=q
 cases rp
 cases r;exact assignInOrder_nil ⟨σ,σD,I,ok,λ_ _=>rfl,q⟩⟩
theorem ze{e:Expr}{es:List Expr}{i1 i2:List Nat}{g:DTG}{gs:zgp}(h1:DG X e i1 g)(h2:DGs X es i2 gs)
  (hs:(assignEach (e::es) X.env).map (·.2)=assign e X.env::(assignEach es X.env).map (·.2):=by rfl):DGs X (e::es) (i1++i2) (zjg g gs):=⟨λpins s σ H H₀ σD vs us ds Q I ok r rp q=>by
 cases rp with
 |nil=>exact q.elim
 |cons rd rds=>
  cases r with
  |cons r rr=>
   rw[hs];refine assignInOrder_cons (thn (h1.run pins s σ H H₀ σD _ _ _ _ I ok r rd q) λ_ s1 zr48=>?_);obtain⟨σ1,σD1,I1,ok1,f1,q1⟩:=zr48;refine thn (h2.run pins s1 σ1 H H₀ σD1 _ _ _ Q I1 ok1 rr rds q1) λ_ s2 ⟨σ2,σD2,I2,ok2,f2,q2⟩=>⟨σ2,σD2,I2,ok2,λj hj=>?_,q2⟩
   rw[f2 j (λz=>hj (List.mem_append_right _ z)),f1 j (λz=>hj (List.mem_append_left _ z))]⟩
def zog(n:Nat)(gs:zgp):DTG:=λd σ Q=>match d with
 |.tuple xs=>xs.length=n/\gs xs σ Q
 |_=>False
theorem zt6{es:List Expr}{k:Nat}{is:List Nat}{gs:zgp}{n:Nat}(hc:X.calm=true)(h:DGs X es is gs)(hn:(assignEach es X.env).length=n:=by rfl)(hst:(assignEach es X.env).findIdx? (·.1)=none:=by rfl):DG X (.Tuple es k pos) is (zog n gs):=⟨λpins s σ H H₀ σD v u d Q I ok r rp q=>by
 cases d with
 |tuple xs=>
  obtain⟨hl,q⟩:=q
  cases rp with
  |tup hq rr=>
   cases r;obtain⟨its,rv,ht,hz⟩:=I.tuple hq;refine assign_Tuple_tuple (I.ok.hd hc) ht (by simp[hn,<-hl,<-rv.length,rr.length]) hst λh' hx=>?_;have I1:Inv X pins σ H { s with heap:=h' }:=I.kept (t':=s.toks) λb o e=>hx b o (Nat.ne_of_lt (Heap.lt_size e)) e;exact h.run pins _ σ H H₀ σD _ _ xs Q I1 ok (by simpa using rv) rr q
 |_=>exact q.elim⟩
def lcD(f:D->(Option D->Prop)->Prop):List D->(List D->Prop)->Prop
 |[],Q=>Q []
 |d::ds,Q=>f d λo=>lcD f ds λys=>Q (match o with|some y=>y::ys|none=>ys)
def zhq:Option W->Option W
 |some (.own (.lst xs))=>some (.vw xs)
 |some (.own (.dct xs))=>some (.vd xs)
 |some (.own (.nst _ _))=>none
 |some (.own (.anc _ _))=>none
 |some (.own (.ins _ _))=>none
 |some (.own (.mix _))=>none
 |some (.tmp _)=>none
 |w=>w
def x5(k:Nat)(js:List Nat)(σ:DSt):DSt:=List.replicate k none++js.map λj=>zhq (σ[j]?).join
def lcF(g:DTG)(tt:DTT)(te:DTE)(σ0:DSt):D->(Option D->Prop)->Prop:=λd k=>g d σ0 λσ2=>tt σ2 λb=>if b=true then te σ2 λy=>k (some y) else k none
def dLC(k:Nat)(js:List Nat)(ti:DTF)(g:DTG)(tt:DTT)(te:DTE):DTF:=λσ Q=>ti σ λds=>ds.length<=sizeLine/\lcD (lcF g tt te (x5 k js σ)) ds Q
structure DTs(X:Cx)(ifs:List Expr)(t:DTT):Prop where
 pts:PTs X ifs (cnT X.K t)
def zoh:DTT:=λ_ Q=>Q true
theorem qi:DTs X [] zoh:=⟨λpins s σ H Q I zq37=>by obtain⟨H₀,σD,QD,ok,q,k⟩:=zq37;exact zqf pins s σ H Q I (k true H (Same.refl _) q)⟩
theorem vk{c:Expr}{t:DTT}(h:DT X c t):DTs X [c] t:=⟨zqg h.pt⟩
theorem Slots.keepN{K:PySem.W.Frag}{H₀ H:Hp}{σD:DSt}{σ:St}{fp:List Addr}(h:Slots K H₀ H σD σ fp):∀{σ':St},σ'.length=σ.length->(∀j:Nat,σD[j]?=some Option.none\/σ'[j]?=σ[j]?)->Slots K H₀ H σD σ' fp:=by
 induction h with
 |nil=>intro σ' hl _;cases σ' with
  |nil=>exact .nil
  |cons _ _=>simp at hl
 |none t ih=>
  intro σ' hl k
  cases σ' with
  |nil=>simp at hl
  |cons x σ'=>exact .none (ih (by simpa using hl) λj=>by simpa using k (j+1))
 |val r t ih=>
  intro σ' hl k
  cases σ' with
  |nil=>simp at hl
  |cons x σ'=>
   have:=k 0;simp at this;subst this;exact .val r (ih (by simpa using hl) λj=>by simpa using k (j+1))
 |vw r t ih=>
  intro σ' hl k
  cases σ' with
  |nil=>simp at hl
  |cons x σ'=>
   have:=k 0;simp at this;subst this;exact .vw r (ih (by simpa using hl) λj=>by simpa using k (j+1))
 |vd r t ih=>
  intro σ' hl k
  cases σ' with
  |nil=>simp at hl
  |cons x σ'=>
   have:=k 0;simp at this;subst this;exact .vd r (ih (by simpa using hl) λj=>by simpa using k (j+1))
 |exc r t ih=>
  intro σ' hl k
  cases σ' with
  |nil=>simp at hl
  |cons x σ'=>
   have:=k 0;simp at this;subst this;exact .exc r (ih (by simpa using hl) λj=>by simpa using k (j+1))
 |scr r t ih=>
  intro σ' hl k
  cases σ' with
  |nil=>simp at hl
  |cons x σ'=>
   have:=k 0;simp at this;subst this;exact .scr r (ih (by simpa using hl) λj=>by simpa using k (j+1))
 |pen r t ih=>
  intro σ' hl k
  cases σ' with
  |nil=>simp at hl
  |cons x σ'=>
   have:=k 0;simp at this;subst this;exact .pen r (ih (by simpa using hl) λj=>by simpa using k (j+1))
 |tmp r t ih=>
  intro σ' hl k
  cases σ' with
  |nil=>simp at hl
  |cons x σ'=>
   have:=k 0;simp at this;subst this;exact .tmp r (ih (by simpa using hl) λj=>by simpa using k (j+1))
 |own r t ih=>
  intro σ' hl k
  cases σ' with
  |nil=>simp at hl
  |cons x σ'=>
   have:=k 0;simp at this;subst this;exact .own r (ih (by simpa using hl) λj=>by simpa using k (j+1))
theorem DOk.keepN{K:PySem.W.Frag}{H₀ H:Hp}{σD:DSt}{σ σ':St}(h:DOk K H₀ H σD σ)(hl:σ'.length=σ.length)(k:∀j:Nat,σD[j]?=some Option.none\/σ'[j]?=σ[j]?):DOk K H₀ H σD σ':=let ⟨s,fp,sl,r⟩:=h;⟨s,fp,sl.keepN hl k,r⟩
theorem DOk.block{K:PySem.W.Frag}{H₀ H:Hp}{σD:DSt}{σ:St}(h:DOk K H₀ H σD σ)(k:Nat)(js:List Nat):DOk K H H (x5 k js σD) (yw k js σ):=by
 refine⟨Same.refl _,[],?_,List.nodup_nil,λa ha=>by cases ha⟩;have two:∀js:List Nat,Slots K H H (js.map λj=>zhq (σD[j]?).join) (js.map λj=>(σ[j]?).join) []:=by
  intro js
  induction js with
  |nil=>exact .nil
  |cons j js ih=>
   simp only[List.map_cons];have nn:∀v,Slots K H H (none::js.map λj=>zhq (σD[j]?).join) (v::js.map λj=>(σ[j]?).join) []:=λv=>.none ih
   cases e:σD[j]? with
   |none=>exact nn _
   |some o=>
    cases o with
    |none=>exact nn _
    |some w=>
     cases w with
     |val d=>
      obtain⟨v,e1,r⟩:=h.val e;rw[e1];exact .val r ih
     |vw xs=>
      obtain⟨v,e1,r⟩:=h.vw e;rw[e1];exact .vw r ih
     |vd xs=>
      obtain⟨v,e1,r⟩:=h.vd e;rw[e1];exact .vd r ih
     |exc xs=>
      obtain⟨v,e1,r⟩:=h.exc e;rw[e1];exact .exc r ih
     |scr ns=>
      obtain⟨a,e1,r⟩:=h.scr e;rw[e1];exact .scr r ih
     |pen=>
      obtain⟨a,e1,r⟩:=h.pen e;rw[e1];exact .pen r ih
     |tmp d=>exact nn _
     |own o=>
      cases o with
      |lst xs=>
       obtain⟨a,vs,e1,e2,r,_⟩:=h.ownL e;rw[e1];exact .vw ⟨a,vs,rfl,.inl e2,r⟩ ih
      |dct xs=>
       obtain⟨a,vs,e1,e2,r,_⟩:=h.ownD e;rw[e1];exact .vd ⟨a,vs,rfl,e2,r⟩ ih
      |nst xss ds=>exact nn _
      |anc _ _=>exact nn _
      |ins _ _=>exact nn _
      |mix _=>exact nn _
 unfold x5 yw
 induction k with
 |zero=>exact two js
 |succ k ih=>exact .none ih
theorem zhr{g:DTG}{tt:DTT}{te:DTE}{k:Nat}{js is:List Nat}{σ:St}{σD:DSt}{H₀ H1:Hp}{J:It}{ds:List D}{QD:List D->Prop}{Dd:Addr}{gL:TG}(ok:DOk X.K H₀ H1 σD σ)(it:ItOk X.K Same J H1 ds)(hz:ds.length<=sizeLine)
  (hg:∀d v σ' H' Q (σ0:DSt),DOk X.K H1 H' σ0 σ'->Rep X.K H' d v->g d σ0 Q->gL v σ' H' (λσ2 H2=>H2=H'/\σ2.length=σ'.length/\(∀j,j∉is->σ2[j]?=σ'[j]?)/\∃σD2,DOk X.K H1 H' σD2 σ2/\Q σD2))
  (mono:∀v σ' H' (Q Q':St->Hp->Prop),(∀σ2 H2,Q σ2 H2->Q' σ2 H2)->gL v σ' H' Q->gL v σ' H' Q')
  (his:∀j∈is,j<k) (hn:H1 Dd=none) (q:lcD (lcF g tt te (x5 k js σD)) ds QD) :
  zdf J Dd gL (cnT X.K tt) (cnE X.K te) (yw k js σ) H1 (λv H'=>∃a vs xs,v=.ref a/\Same H1 H'/\H1 a=none/\H' a=some (.lst vs)/\Reps X.K H' xs vs/\QD xs):=by
 have sub:∀{Q1:List D->Prop}{i:Nat}{d:D},ds[i]?=some d->lcD (lcF g tt te (x5 k js σD)) (ds.drop i) Q1=lcF g tt te (x5 k js σD) d (λo=>lcD (lcF g tt te (x5 k js σD)) (ds.drop (i+1)) λys=>Q1 (match o with|some y=>y::ys|none=>ys)):=λ{Q1 i d} e=>by
  obtain⟨hi,e'⟩:=List.getElem?_eq_some_iff.mp e;rw[List.drop_eq_getElem_cons hi,e'];rfl
 refine⟨λi m σ' H'=>m=ds.length-i/\i<=ds.length/\Same H1 H'/\σ'.length=(yw k js σ).length/\(∀j,k<=j->σ'[j]?=(yw k js σ)[j]?)/\∃acc vs,H' Dd=some (.lst vs)/\Reps X.K H' acc vs/\acc.length<=i/\lcD (lcF g tt te (x5 k js σD)) (ds.drop i) (λys=>QD (acc++ys)),
  ⟨ds.length,rfl,Nat.zero_le _,yk hn _,rfl,λ_ _=>rfl,[],[],z9,.nil,Nat.le_refl _,q⟩,?_⟩
 intro i m σ' H' zz;refine gg λG zk=>?_;obtain⟨zem,hi,sm,hl,fr,acc,vs,eD,ra,la,q1⟩:=zz;refine zk ?_;clear zk;subst zem;have ok1:DOk X.K H1 H' (x5 k js σD) σ':=by
  refine DOk.keepN ((ok.block k js).after sm) hl λj=>?_
  by_cases hj:j<k
  ·left;unfold x5;rw[List.getElem?_append_left (by simpa using hj),List.getElem?_replicate,if_pos hj]
  ·right;exact fr j (by omega)
 by_cases hlt:i<ds.length
 ·have e:ds[i]?=some ds[i]:=by simp[hlt]
  obtain⟨go,yl⟩:=it.go H' i ds[i] sm e;refine .inr ⟨go,λx H2 y=>?_⟩;obtain⟨s2,r2⟩:=yl x H2 y;rw[sub e]at q1;refine mono _ _ _ _ _ (λσ2 H3 z=>?_) (hg ds[i] x σ' H2 _ _ (ok1.after s2) r2 q1);obtain⟨rfl,l2,f2,σD2,ok2,q2⟩:=z;have fr2:∀j,k<=j->σ2[j]?=(yw k js σ)[j]?:=λj hj=>by rw[f2 j (λz=>absurd (his j z) (by omega)),fr j hj]
  refine⟨H1,σD2,_,ok2,q2,λb H4 s4 q4=>?_⟩
  cases b with
  |true=>
   rw[if_pos rfl]at q4 ⊢;refine⟨H1,σD2,_,ok2.after s4,q4,λy H5 dy s5 r5 q5=>?_⟩;have eD5:=s5 _ _ (s4 _ _ (s2 _ _ eD));have ra5:=((ra.same s2).same s4).same s5;refine⟨vs,eD5,by rw[<-ra5.length];omega,ds.length-(i+1),by omega,rfl,hlt,?_,l2.trans hl,fr2,acc ++ [dy],vs ++ [y],z9,?_,by rw[List.length_append,List.length_singleton];omega,?_⟩
   ·exact Same.but (((sm.trans s2).trans s4).trans s5) hn But.write
   ·exact(ra5.append (.cons r5 .nil)).mono (w5 eD5 rfl)
   ·simpa using q5
  |false=>
   rw[if_neg Bool.false_ne_true]at q4 ⊢;exact⟨ds.length-(i+1),by omega,rfl,hlt,(sm.trans s2).trans s4,l2.trans hl,fr2,acc,vs,s4 _ _ (s2 _ _ eD),(ra.same s2).same s4,by omega,by simpa using q4⟩
 ·have e:i=ds.length:=by omega
  subst e;rw[List.drop_length]at q1;refine .inl ⟨it.stop H' sm,Dd,vs,acc,rfl,sm,hn,eD,ra,?_⟩;have:lcD (lcF g tt te (x5 k js σD)) [] (λys=>QD (acc++ys)):=q1;simpa[lcD]using this
def cnG(K:PySem.W.Frag)(is:List Nat)(g:DTG):TG:=λv σ H Q=>∃H₀ σD d QD,DOk K H₀ H σD σ/\Rep K H d v/\g d σD QD/\∀σ' σD',σ'.length=σ.length->DOk K H₀ H σD' σ'->(∀j,j∉is->σ'[j]?=σ[j]?)->QD σD'->Q σ' H
theorem DG.pg{is:List Nat}{g:DTG}(h:DG X tg is g):PG X tg (cnG X.K is g):=λpins s σ H v u Q I r zq87=>by obtain⟨H₀,σD,d,QD,ok,rp,q,k⟩:=zq87;exact thn (h.run pins s σ H H₀ σD v u d QD I ok r rp q) λ_ s' zq1=>by obtain⟨σ',σD',I',ok',f,qd⟩:=zq1;exact⟨σ',H,I',k σ' σD' (by rw[I'.len,I.len]) ok' f qd⟩
variable {elt:Expr}{ifs:List Expr}{scope:Scope}{cl:List (Str×Addr)}{N' capt:List Str}{k:Nat}{js is:List Nat}{ti:DTF}{g:DTG}{tt:DTT}{te:DTE}
theorem jv(hc:X.calm=true)(L:ze6 X scope cl N' capt k js)
  (hi:DIw X tg iter ti) (hg:∀C fp s2 H2,DG (yy X N' scope cl C fp s2 H2) tg is g) (ht:∀C fp s2 H2,DTs (yy X N' scope cl C fp s2 H2) ifs tt) (he:∀C fp s2 H2,DE (yy X N' scope cl C fp s2 H2) elt te)
  (his:∀j∈is,j<k:=by decide) (hs:∀x,foldedSetIterable iter X.env x=pure x:=by intro _;rfl):DF X (.ListComp elt [⟨tg,iter,ifs,0⟩] scope pos) (dLC k js ti g tt te) :=
 DF.of (zvw hc L hi.pi (λC fp s2 H2=>(hg C fp s2 H2).pg) (λC fp s2 H2=>(ht C fp s2 H2).pts) (λC fp s2 H2=>(he C fp s2 H2).pe) hs) λσ H H₀ σD QD ok q=>⟨H₀,σD,_,ok,q,λJ H1 ds s1 it q1 Dd hn=>by
  have z:=zhr (k:=k) (js:=js) (is:=is) (gL:=cnG X.K is g) (Dd:=Dd) (ok.after s1) it q1.1 (λd v σ' H' Q σ0 ok0 r0 q0=>⟨H1,σ0,d,Q,ok0,r0,q0,λσ2 σD2 l2 ok2 f2 q2=>⟨rfl,l2,f2,σD2,ok2,q2⟩⟩)
   (λv σ' H' Q Q' m zq7=>by obtain⟨a,b,c,d,e1,e2,e3,e4⟩:=zq7;exact⟨a,b,c,d,e1,e2,e3,λσ2 σD2 l o f q=>m _ _ (e4 σ2 σD2 l o f q)⟩) his hn q1.2
  obtain⟨W,w0,turn⟩:=z;refine⟨W,w0,λi m σ' H' w=>?_⟩;rcases turn i m σ' H' w with⟨st,a,vs,xs,e,sm,n,e2,r,qd⟩|h
  ·exact .inl ⟨st,a,vs,xs,e,s1.trans sm,s1.free n,e2,r,qd⟩
  ·exact .inr h⟩
end
inductive Ret where
 |val (d:D)|new (xs:List D)
def Ret.d:Ret->D
 |.val d=>d
 |.new xs=>.list xs
abbrev DSp:=List W->(Ret->Prop)->Prop
def zhs(K:PySem.W.Frag)(H H':Hp):Ret->V->Prop
 |.val d,v=>Rep K H' d v
 |.new xs,v=>∃a vs,v=.ref a/\H a=none/\H' a=some (.lst vs)/\Reps K H' xs vs
def yh(K:PySem.W.Frag)(sp:DSp):Sp:=λvs H Q _=>∃ws QD,RepWs K H ws vs/\sp ws QD/\∀v H' r,Same H H'->zhs K H H' r v->QD r->Q v H'
def zkx(sp:DSp)(t:DTP):DTE:=λσ Q=>t σ λws=>sp ws λr=>Q r.d
def zjh(sp:DSp)(t:DTP):DTF:=λσ Q=>t σ λws=>sp ws λr=>match r with
 |.new xs=>Q xs
 |.val _=>False
section
variable {X:Cx}{e:Expr}{es:List Expr}{k k':Nat}{x:Str}{ps:List Str}{sp:DSp}{t:DTP}{p pos:Pos}
theorem zht{pins:List (Addr×Obj)}{σ:St}{H H₀:Hp}{σD:DSt}{s:Shared}{Q:Ret->Prop}(C:yg X.prog X.w X.K X.mg X.base k x ps (yh X.K sp))(hr:Room k' X.A)(hg:Gl X x)(ha:DPs X (e::es) t)(hk:k<=k')
  (hdb:(x ==("__debug__" : Str))=false) (he:starEach (e::es) X.env=(false,eval e X.env)::starEach es X.env) (hpl:(backTo pos (starEach es X.env)).any (·.1)=false) (I:Inv X pins σ H s) (ok:DOk X.K H₀ H σD σ) (q:t σD λws=>sp ws Q) :
  wpAny (model X.prog X.w) X.A (eval (.Call (.Name x p) (e::es) [] pos) X.env) (λu s'=>∃v H' r,Inv X pins σ H' s'/\RelV v u/\Same H H'/\zhs X.K H H' r v/\Q r) X.xe s:=by
 refine thn (zbl C hr hg ha.pa hk hdb he hpl pins s σ H (λv H'=>∃r,Same H H'/\zhs X.K H H' r v/\Q r) I ?_) λu s' zq26=>by obtain⟨v,H',I',r,z,sm,rp,qd⟩:=zq26;exact⟨v,H',z,I',r,sm,rp,qd⟩
 refine⟨H₀,σD,_,ok,q,λvs H1 ws s1 r1 q1=>⟨ws,Q,by rw[List.append_nil];exact r1,q1,λv H' r s2 rp qd=>⟨r,s1.trans s2,?_,qd⟩⟩⟩
 cases r with
 |val d=>exact rp
 |new xs=>obtain⟨a,vs,e1,n,e2,r⟩:=rp;exact⟨a,vs,e1,s1.free n,e2,r⟩
theorem zq(C:yg X.prog X.w X.K X.mg X.base k x ps (yh X.K sp))(hr:Room k' X.A)(hg:Gl X x)(ha:DPs X (e::es) t)(hk:k<=k':=by decide)(hdb:(x ==("__debug__" : Str))=false:=by decide)
  (he:starEach (e::es) X.env=(false,eval e X.env)::starEach es X.env:=by rfl) (hpl:(backTo pos (starEach es X.env)).any (·.1)=false:=by rfl):DE X (.Call (.Name x p) (e::es) [] pos) (zkx sp t) :=
 ⟨λpins s σ H H₀ σD Q I ok q=>thn (zht C hr hg ha hk hdb he hpl I ok q) λu s' zq83=>by
  obtain⟨v,H',r,I',rv,sm,rp,qd⟩:=zq83
  cases r with
  |val d=>exact⟨v,H',d,I',rv,sm,rp,qd⟩
  |new xs=>
   obtain⟨a,vs,rfl,n,e,r⟩:=rp;obtain⟨H'',J,sm',r'⟩:=zb7 I' sm n e r;exact⟨.ref a,H'',.list xs,J,rv,sm',r',qd⟩⟩
theorem zqu(C:yg X.prog X.w X.K X.mg X.base k x ps (yh X.K sp))(hr:Room k' X.A)(hg:Gl X x)(ha:DPs X (e::es) t)(hk:k<=k':=by decide)(hdb:(x ==("__debug__" : Str))=false:=by decide)
  (he:starEach (e::es) X.env=(false,eval e X.env)::starEach es X.env:=by rfl) (hpl:(backTo pos (starEach es X.env)).any (·.1)=false:=by rfl):DF X (.Call (.Name x p) (e::es) [] pos) (zjh sp t) :=
 ⟨λpins s σ H H₀ σD Q I ok q=>thn (zht C hr hg ha hk hdb he hpl I ok q) λu s' zq83=>by
  obtain⟨v,H',r,I',rv,sm,rp,qd⟩:=zq83
  cases r with
  |val d=>exact qd.elim
  |new xs=>
   obtain⟨a,vs,rfl,n,e,r⟩:=rp;exact⟨a,H',vs,xs,rv,I',sm,n,e,r,qd⟩⟩
end
structure jf where
 nx:DSt->Prop
 rt:Ret->Prop
 bk:DSt->Prop:=λ_=>False
 ct:DSt->Prop:=λ_=>False
abbrev DTS:=jf->DSt->Prop
def DSP(X:Cx)(pins:List (Addr×Obj))(H₀ H:Hp)(Dn:jf)(f:Flow)(s':Shared):Prop :=
 match f with
 |.next=>∃σ' H' σD',Inv X pins σ' H' s'/\DOk X.K H₀ H' σD' σ'/\Pers H H'/\Dn.nx σD'
 |.brk=>∃σ' H' σD',Inv X pins σ' H' s'/\DOk X.K H₀ H' σD' σ'/\Pers H H'/\Dn.bk σD'
 |.cont=>∃σ' H' σD',Inv X pins σ' H' s'/\DOk X.K H₀ H' σD' σ'/\Pers H H'/\Dn.ct σD'
 |.ret u=>∃v σ' H' r,Inv X pins σ' H' s'/\RelV v u/\Same H₀ H'/\zhs X.K H₀ H' r v/\Dn.rt r
structure DS(X:Cx)(st:Stmt)(t:DTS):Prop where
 run:∀(pins:List (Addr×Obj)) (s:Shared) (σ:St) (H H₀:Hp) (σD:DSt) (Dn:jf),Inv X pins σ H s->DOk X.K H₀ H σD σ->t Dn σD->wpAny (model X.prog X.w) X.A (exec st X.env) (DSP X pins H₀ H Dn) X.xe s
structure DSs(X:Cx)(st:List Stmt)(t:DTS):Prop where
 run:∀(pins:List (Addr×Obj)) (s:Shared) (σ:St) (H H₀:Hp) (σD:DSt) (Dn:jf),Inv X pins σ H s->DOk X.K H₀ H σD σ->t Dn σD->wpAny (model X.prog X.w) X.A (execs st X.env) (DSP X pins H₀ H Dn) X.xe s
theorem DSP.back{X:Cx}{pins:List (Addr×Obj)}{H₀ H H1:Hp}{Dn:jf}{f:Flow}{s':Shared}(p:Pers H H1)(h:DSP X pins H₀ H1 Dn f s'):DSP X pins H₀ H Dn f s':=by
 cases f with
 |next=>obtain⟨a,b,c,e1,e2,e3,e4⟩:=h;exact⟨a,b,c,e1,e2,p.trans e3,e4⟩
 |brk=>obtain⟨a,b,c,e1,e2,e3,e4⟩:=h;exact⟨a,b,c,e1,e2,p.trans e3,e4⟩
 |cont=>obtain⟨a,b,c,e1,e2,e3,e4⟩:=h;exact⟨a,b,c,e1,e2,p.trans e3,e4⟩
 |ret u=>exact h
def zsc(K:PySem.W.Frag)(H₀ H:Hp)(Dn:jf):ziv where
 nx:=λσ' H'=>∃σD',DOk K H₀ H' σD' σ'/\Pers H H'/\Dn.nx σD'
 bk:=λσ' H'=>∃σD',DOk K H₀ H' σD' σ'/\Pers H H'/\Dn.bk σD'
 ct:=λσ' H'=>∃σD',DOk K H₀ H' σD' σ'/\Pers H H'/\Dn.ct σD'
 rt:=λv H'=>∃r,Same H₀ H'/\zhs K H₀ H' r v/\Dn.rt r
section
variable {X:Cx}{st:Stmt}{sts rest:List Stmt}{t u:DTS}{e:Expr}{te:DTE}{tf:DTF}{pos:Pos}
theorem SP.dsp{pins:List (Addr×Obj)}{H₀ H:Hp}{Dn:jf}{f:Flow}{s':Shared}(h:SP X pins (zsc X.K H₀ H Dn) f s'):DSP X pins H₀ H Dn f s':=by
 cases f with
 |next=>obtain⟨a,b,e1,c,e2,e3,e4⟩:=h;exact⟨a,b,c,e1,e2,e3,e4⟩
 |brk=>obtain⟨a,b,e1,c,e2,e3,e4⟩:=h;exact⟨a,b,c,e1,e2,e3,e4⟩
 |cont=>obtain⟨a,b,e1,c,e2,e3,e4⟩:=h;exact⟨a,b,c,e1,e2,e3,e4⟩
 |ret u=>obtain⟨v,a,b,e1,e2,r,e3,e4,e5⟩:=h;exact⟨v,a,b,r,e1,e2,e3,e4,e5⟩
theorem DS.of{t':TS}(h:PS X st t')(k:∀σ H H₀ σD Dn,DOk X.K H₀ H σD σ->t Dn σD->t' (zsc X.K H₀ H Dn) σ H):DS X st t :=
 ⟨λpins s σ H H₀ σD Dn I ok q=>thn (h pins s σ H _ I (k σ H H₀ σD Dn ok q)) λ_ _ z=>z.dsp⟩
def cnS(K:PySem.W.Frag)(t:DTS):TS:=λE σ H=>∃H₀ σD Dn,DOk K H₀ H σD σ/\t Dn σD/\(∀σ' H' σD',DOk K H₀ H' σD' σ'->Pers H H'->Dn.nx σD'->E.nx σ' H')/\(∀v H' r,Same H₀ H'->zhs K H₀ H' r v->Dn.rt r->E.rt v H') /\
 (∀σ' H' σD',DOk K H₀ H' σD' σ'->Pers H H'->Dn.bk σD'->E.bk σ' H')/\∀σ' H' σD',DOk K H₀ H' σD' σ'->Pers H H'->Dn.ct σD'->E.ct σ' H'
theorem DSs.ps(h:DSs X sts t):PSs X sts (cnS X.K t):=by
 intro pins s σ H E I zz;obtain⟨H₀,σD,Dn,ok,q,k1,k2,k3,k4⟩:=zz;refine thn (h.run pins s σ H H₀ σD Dn I ok q) λf s' z=>?_
 cases f with
 |next=>obtain⟨a,b,c,e1,e2,e3,e4⟩:=z;exact⟨a,b,e1,k1 a b c e2 e3 e4⟩
 |brk=>obtain⟨a,b,c,e1,e2,e3,e4⟩:=z;exact⟨a,b,e1,k3 a b c e2 e3 e4⟩
 |cont=>obtain⟨a,b,c,e1,e2,e3,e4⟩:=z;exact⟨a,b,e1,k4 a b c e2 e3 e4⟩
 |ret u=>obtain⟨v,a,b,r,e1,e2,e3,e4,e5⟩:=z;exact⟨v,a,b,e1,e2,k2 v b r e3 e4 e5⟩
def zoi:DTS:=λDn σ=>Dn.nx σ
def zoj(t u:DTS):DTS:=λDn σ=>t { Dn with nx:=u Dn } σ
theorem yo:DSs X [] zoi:=⟨λ_ _ σ H _ σD _ I ok h=>wpAny_execs_nil ⟨σ,H,σD,I,ok,Pers.refl _,h⟩⟩
theorem zg(h1:DS X st t)(h2:DSs X rest u):DSs X (st::rest) (zoj t u):=⟨λpins s σ H H₀ σD Dn I ok q=>by
 refine wpAny_execs_cons (thn (h1.run pins s σ H H₀ σD { Dn with nx:=u Dn } I ok q) λf s1 z=>?_)
 cases f with
 |next=>
  obtain⟨σ',H',σD',I',ok',p,q'⟩:=z;exact thn (h2.run pins s1 σ' H' H₀ σD' Dn I' ok' q') λ_ _ y=>y.back p
 |ret v=>exact z
 |brk=>exact z
 |cont=>exact z⟩
theorem zh(h1:DS X st t):DSs X [st] t:=⟨λpins s σ H H₀ σD Dn I ok q=>by
 refine wpAny_execs_cons (thn (h1.run pins s σ H H₀ σD Dn I ok q) λf s1 z=>?_)
 cases f with
 |next=>exact wpAny_execs_nil z
 |ret v=>exact z
 |brk=>exact z
 |cont=>exact z⟩
def zji:DTS:=λDn σ=>Dn.bk σ
theorem zok:DS X (.Break pos) zji:=⟨λ_ _ σ H _ σD _ I ok h=>wpAny_Break ⟨σ,H,σD,I,ok,Pers.refl _,h⟩⟩
def zjj:DTS:=λ_ _=>False
theorem zd1:DS X st zjj:=⟨λ_ _ _ _ _ _ _ _ _ h=>h.elim⟩
def zt7(te:DTE):DTS:=λDn σ=>te σ λd=>Dn.rt (.val d)
def zol(tf:DTF):DTS:=λDn σ=>tf σ λxs=>Dn.rt (.new xs)
def zky(i:Nat):DTS:=λDn σ=>match σ[i]? with
 |some (some (.own (.lst xs)))=>Dn.rt (.new xs)
 |_=>False
theorem zw(he:DE X e te):DS X (.Return (some e) pos) (zt7 te) :=
 DS.of (zb5 he.pe) λσ H H₀ σD Dn ok q=>⟨H₀,σD,_,ok,q,λv H1 d s1 r1 q1=>⟨.val d,ok.same.trans s1,r1,q1⟩⟩
theorem zkz(he:DF X e tf):DS X (.Return (some e) pos) (zol tf) :=
 DS.of (zb5 he.pe) λσ H H₀ σD Dn ok q=>⟨H₀,σD,_,ok,q,λa H1 vs xs s1 n e r1 q1=>⟨.new xs,ok.same.trans s1,⟨a,vs,rfl,ok.same.free n,e,r1⟩,q1⟩⟩
theorem zqv(i:Nat){x:Str}{pos':Pos}(hN:X.N[i]?=some x:=by rfl)(hv:Vis X.env.scope x:=by first|exact Or.inl rfl|exact Or.inr (Or.inl rfl)|exact Or.inr (Or.inr rfl))(hd:(x ==("__debug__" : Str))=false:=by decide)
  (hcd:(x ==("__classdict__" : Str))=false:=by decide):DS X (.Return (some (.Name x pos')) pos) (zky i) :=
 DS.of (zb5 (wm (i:=i) hN hv hd hcd)) λσ H H₀ σD Dn ok q=>by
  unfold zky at q
  split at q
  ·next xs e=>
   obtain⟨a,vs,e1,e2,r,n⟩:=ok.ownL e;exact⟨.ref a,e1,.new xs,ok.same,⟨a,vs,rfl,n,e2,r⟩,q⟩
  ·exact q.elim
def zqw(i:Nat)(te:DTE):DTS:=λDn σ=>te σ λd=>Dn.nx (σ.set i (some (.val d)))
def zom(i:Nat)(tf:DTF):DTS:=λDn σ=>tf σ λxs=>Dn.nx (σ.set i (some (.own (.lst xs))))
def zon(i:Nat)(tf:DTF):DTS:=λDn σ=>tf σ λxs=>(∃a b c:Int,xs = [.int a,.int b,.int c])/\Dn.nx (σ.set i (some .pen))
theorem yu{i:Nat}{x:Str}{pos':Pos}(hN:X.N.Nodup)(hi:X.N[i]?=some x)(hx:Loc X.env.scope x)(he:DE X e te)(hs:swapsWith e (some (.Name x pos')) pos.line X.env=pure false:=by rfl)(hf:X.fn x=true\/X.env.scope.names.lookup x=some .local:=by first|exact .inl rfl|exact .inr rfl|assumption):
  DS X (.Assign [.Name x pos'] e pos) (zqw i te) :=
 DS.of (zdt hN hi hx he.pe hs hf) λσ H H₀ σD Dn ok q=>⟨H₀,σD,_,ok,q,λv H1 d s1 r1 q1=>⟨_,(ok.after s1).setV r1 i,s1.pers,q1⟩⟩
theorem zdj{i:Nat}{x:Str}{pos':Pos}(hN:X.N.Nodup)(hi:X.N[i]?=some x)(hx:Loc X.env.scope x)(he:DF X e tf)(hs:swapsWith e (some (.Name x pos')) pos.line X.env=pure false:=by rfl)(hf:X.fn x=true\/X.env.scope.names.lookup x=some .local:=by first|exact .inl rfl|exact .inr rfl|assumption):
  DS X (.Assign [.Name x pos'] e pos) (zom i tf) :=
 DS.of (zdt hN hi hx he.pe hs hf) λσ H H₀ σD Dn ok q=>⟨H₀,σD,_,ok,q,λa H1 vs xs s1 n e r1 q1=>⟨_,ok.setO s1 n e r1 i,s1.pers,q1⟩⟩
theorem zqx{i:Nat}{x:Str}{pos':Pos}(hN:X.N.Nodup)(hi:X.N[i]?=some x)(hx:Loc X.env.scope x)(he:DF X e tf)(hs:swapsWith e (some (.Name x pos')) pos.line X.env=pure false:=by rfl)(hf:X.fn x=true\/X.env.scope.names.lookup x=some .local:=by first|exact .inl rfl|exact .inr rfl|assumption):
  DS X (.Assign [.Name x pos'] e pos) (zon i tf):=⟨λpins s σ H H₀ σD Dn I ok q=>by
 refine thn (zdt hN hi hx he.pe hs hf pins s σ H { nx:=λσ' H'=>∃a,Same H H'/\H a=none/\σ'=σ.set i (some (.ref a))/\(∃x y z:Int,H' a=some (.lst [.int x,.int y,.int z]))/\Dn.nx (σD.set i (some .pen)),rt:=λ_ _=>False } I ⟨H₀,σD,_,ok,q,λa H1 vs xs s1 n e r1 q1=>?_⟩) λf s' z=>?_
 ·obtain⟨⟨x,y,z,rfl⟩,q1⟩:=q1
  cases r1 with
  |cons r1 t=>cases t with
   |cons r2 t=>cases t with
    |cons r3 t=>
     cases t
     cases r1
     cases r2
     cases r3;exact⟨a,s1,n,rfl,⟨x,y,z,e⟩,q1⟩
 ·cases f with
  |next=>
   obtain⟨σ',H',I',a,sm,n,rfl,⟨x,y,z,e⟩,q⟩:=z;have sm2:Same H (upd H' a (zb6 a)):=λb u hb=>by rw[ya (yz hb n)];exact sm b u hb
   exact⟨_,_,_,I'.toPen e,(ok.after sm2).put (.pen z9) i,sm2.pers,q⟩
  |ret u=>obtain⟨_,_,_,_,_,z⟩:=z;exact z.elim
  |brk=>obtain⟨_,_,_,z⟩:=z;exact z.elim
  |cont=>obtain⟨_,_,_,z⟩:=z;exact z.elim⟩
def zt8(te:DTE)(g:DTG):DTS:=λDn σ=>te σ λd=>g d σ Dn.nx
theorem xq{tg:Expr}{is:List Nat}{g:DTG}(he:DE X e te)(hg:DG X tg is g)(hs:swapsWithSole [tg] e pos.line X.env=pure false:=by rfl)(hw:swappedStores [tg] e X.env=pure none:=by rfl)
  (h1:(assignEach [tg] X.env).map (·.2) = [assign tg X.env]:=by rfl):DS X (.Assign [tg] e pos) (zt8 te g) :=
 DS.of (zds he.pe hg.pg hs hw h1) λσ H H₀ σD Dn ok q=>⟨H₀,σD,_,ok,q,λv H1 d s1 r1 q1=>⟨H₀,σD,d,_,ok.after s1,r1,q1,λσ' σD' _ ok' _ q'=>⟨σD',ok',s1.pers,q'⟩⟩⟩
def zt9(i j:Nat)(t:DTF):DTS:=λDn σ=>t σ λds=>match ds with
 |[d,e]=>Dn.nx ((σ.set i (some (.val d))).set j (some (.val e)))
 |_=>False
theorem zoo{i j:Nat}{x y:Str}{a b:Expr}{px py pt:Pos}{kt k2 pt2}(hc:X.calm=true)(hN:X.N.Nodup)(hi:X.N[i]?=some x)(hj:X.N[j]?=some y)(hij:i≠j)
  (hx:X.env.scope.names.lookup x=some .local) (hy:X.env.scope.names.lookup y=some .local) (ha:DA X [a,b] tf)
  (hw:swappedStores [.Tuple [.Name x px,.Name y py] kt pt] (.Tuple [a,b] k2 pt2) X.env=pure (some [x,y]))
  (hs:swapsWithSole [.Tuple [.Name x px,.Name y py] kt pt] (.Tuple [a,b] k2 pt2) pos.line X.env=pure false:=by rfl) :
  DS X (.Assign [.Tuple [.Name x px,.Name y py] kt pt] (.Tuple [a,b] k2 pt2) pos) (zt9 i j tf) :=
 DS.of (zsu hc hN hi hj hij hx hy ha.pa hw hs) λσ H H₀ σD Dn ok q=>⟨H₀,σD,_,ok,q,λvs H1 ds s1 r1 q1=>by
  match ds,r1,q1 with
  |[d,e],r1,q1=>
   cases r1 with
   |cons p1 t1=>cases t1 with
    |cons p2 t2=>
     cases t2;exact⟨_,_,rfl,_,((ok.after s1).setV p1 i).setV p2 j,s1.pers,q1⟩⟩
def dIf(c:DTT)(t u:DTS):DTS:=λDn σ=>c σ λb=>if b=true then t Dn σ else u Dn σ
theorem xa{c:Expr}{a b:List Stmt}{tc:DTT}(hc:DT X c tc)(ha:DSs X a t)(hb:DSs X b u):DS X (.If c a b pos) (dIf tc t u):=⟨λpins s σ H H₀ σD Dn I ok q=>by
 refine wpAny_If (thn (hc.run pins s σ H H₀ σD _ I ok q) λd s1 zr3=>?_);obtain⟨H1,I1,sm,q1⟩:=zr3
 cases d with
 |true=>exact thn (ha.run pins s1 σ H1 H₀ σD Dn I1 (ok.after sm) (by simpa using q1)) λ_ _ z=>z.back sm.pers
 |false=>exact thn (hb.run pins s1 σ H1 H₀ σD Dn I1 (ok.after sm) (by simpa using q1)) λ_ _ z=>z.back sm.pers⟩
def zop(c:DTT)(tb:DTS):DTS:=λDn σ=>∃Wv:Nat->DSt->Prop,(∃m,Wv m σ)/\∀m σ,Wv m σ->c σ λb=>if b=true then tb { Dn with nx:=λσ'=>∃m',m' < m/\Wv m' σ',ct:=λσ'=>∃m',m' < m/\Wv m' σ',bk:=Dn.nx } σ else Dn.nx σ
theorem zoq{c:Expr}{body:List Stmt}{tc:DTT}{tb:DTS}(hp:PassesOwn (model X.prog X.w) X.A X.env X.xe)(hc:DT X c tc)(hb:DSs X body tb):DS X (.While c body [] pos) (zop tc tb) :=
 DS.of (znj hp hc.pt hb.ps) λσ H H₀ σD Dn ok q=>by
  obtain⟨Wv,⟨m0,w0⟩,turn⟩:=q;refine⟨λm σ' H'=>∃σD',DOk X.K H₀ H' σD' σ'/\Pers H H'/\Wv m σD',⟨m0,σD,ok,Pers.refl _,w0⟩,?_⟩;rintro m σ' H' ⟨σD',ok',p',w'⟩;refine⟨H₀,σD',_,ok',turn m σD' w',λb H1 s1 q1=>?_⟩
  cases b with
  |true=>
   rw[if_pos rfl]at q1 ⊢;refine⟨λσ2 H2=>∃σD2,DOk X.K H₀ H2 σD2 σ2/\Pers H H2/\∃m',m' < m/\Wv m' σD2,λσ2 H2 zq95=>by obtain⟨σD2,ok2,p2,m',hm,w2⟩:=zq95;exact⟨m',hm,σD2,ok2,p2,w2⟩,H₀,σD',_,ok'.after s1,q1,λσ2 H2 σD2 ok2 p2 n2=>⟨σD2,ok2,(p'.trans s1.pers).trans p2,n2⟩,λv H2 r sm rp qr=>⟨r,sm,rp,qr⟩,λσ2 H2 σD2 ok2 p2 n2=>⟨σD2,ok2,(p'.trans s1.pers).trans p2,n2⟩,λσ2 H2 σD2 ok2 p2 n2=>⟨σD2,ok2,(p'.trans s1.pers).trans p2,n2⟩⟩
  |false=>
   rw[if_neg Bool.false_ne_true]at q1 ⊢;exact⟨σD',ok'.after s1,p'.trans s1.pers,q1⟩
theorem zmo{c:DTT}{tb:DTS}{Dn:jf}{σ:DSt}(Wv:Nat->DSt->Prop)(m0:Nat)(h0:Wv m0 σ)
  (hs:∀m σ (N:DSt->Prop),Wv m σ->(∀m' σ',m' < m->Wv m' σ'->N σ')->c σ λb=>if b=true then tb { Dn with nx:=N,ct:=N,bk:=Dn.nx } σ else Dn.nx σ):zop c tb Dn σ :=
 ⟨Wv,⟨m0,h0⟩,λm σ w=>hs m σ _ w λm' σ' h w'=>⟨m',h,w'⟩⟩
def ze9(g:DTG)(tb:DTS)(Dn:jf):List D->DSt->Prop
 |[],σ=>Dn.nx σ
 |d::ds,σ=>g d σ λσ2=>tb { Dn with nx:=ze9 g tb Dn ds,ct:=ze9 g tb Dn ds,bk:=Dn.nx } σ2
theorem wj{g:DTG}{tb:DTS}{Dn:jf}(Iv:List D->DSt->Prop)(hs:∀d ds σ (N:DSt->Prop),Iv (d::ds) σ->(∀σ',Iv ds σ'->N σ')->g d σ λσ2=>tb { Dn with nx:=N,ct:=N,bk:=Dn.nx } σ2)(hd:∀σ,Iv [] σ->Dn.nx σ):∀{ds:List D}{σ:DSt},Iv ds σ->ze9 g tb Dn ds σ
 |[],σ,h=>hd σ h
 |d::ds,σ,h=>hs d ds σ _ h λσ' h'=>wj Iv hs hd h'
def zua(ti:DTF)(g:DTG)(tb:DTS):DTS:=λDn σ=>ti σ λds=>ze9 g tb Dn ds σ
theorem qw{tg iter:Expr}{body:List Stmt}{ti:DTF}{is:List Nat}{g:DTG}{tb:DTS}(hp:PassesOwn (model X.prog X.w) X.A X.env X.xe)(hc:X.calm=true)(hi:DI X tg iter ti)(hg:DG X tg is g)(hb:DSs X body tb)
  (hs:∀x,foldedSetIterable iter X.env x=pure x:=by intro _;rfl):DS X (.For tg iter body [] pos) (zua ti g tb) :=
 DS.of (zsw hp hc hi.pi hg.pg hb.ps hs) λσ H H₀ σD Dn ok q=>⟨H₀,σD,_,ok,q,λJ H1 ds s1 it q1=>by
  have sub:∀{i:Nat}{d:D}{σ':DSt},ds[i]?=some d->ze9 g tb Dn (ds.drop i) σ'=g d σ' (λσ2=>tb { Dn with nx:=ze9 g tb Dn (ds.drop (i+1)),ct:=ze9 g tb Dn (ds.drop (i+1)),bk:=Dn.nx } σ2):=λ{i d σ'} e=>by
   obtain⟨hi,e'⟩:=List.getElem?_eq_some_iff.mp e;rw[List.drop_eq_getElem_cons hi,e'];rfl
  refine⟨λi m σ' H'=>m=ds.length-i/\i<=ds.length/\Pers H1 H'/\∃σD',DOk X.K H₀ H' σD' σ'/\ze9 g tb Dn (ds.drop i) σD',⟨ds.length,rfl,Nat.zero_le _,Pers.refl _,σD,ok.after s1,q1⟩,?_⟩;rintro i m σ' H' ⟨rfl,hi,pr,σD',ok',q'⟩
  by_cases hlt:i<ds.length
  ·have e:ds[i]?=some ds[i]:=by simp[hlt]
   obtain⟨go,yl⟩:=it.go H' i ds[i] pr e;rw[sub e]at q';refine .inr ⟨go,λσ2 H2=>Pers H1 H2/\∃σD2,DOk X.K H₀ H2 σD2 σ2/\ze9 g tb Dn (ds.drop (i+1)) σD2,λσ2 H2 zq18=>by obtain⟨p2,σD2,ok2,q2⟩:=zq18;exact⟨ds.length-(i+1),by omega,rfl,hlt,p2,σD2,ok2,q2⟩,λx H2 y=>?_⟩;obtain⟨s2,r2⟩:=yl x H2 y;have p2:=pr.trans s2.pers;refine⟨H₀,σD',ds[i],_,ok'.after s2,r2,q',λσ3 σD3 _ ok3 _ q3=>?_⟩;exact⟨H₀,σD3,_,ok3,q3,λσ4 H4 σD4 ok4 p4 q4=>⟨p2.trans p4,σD4,ok4,q4⟩,λv H4 r sm rp qr=>⟨r,sm,rp,qr⟩,λσ4 H4 σD4 ok4 p4 q4=>⟨σD4,ok4,(s1.pers.trans p2).trans p4,q4⟩,λσ4 H4 σD4 ok4 p4 q4=>⟨p2.trans p4,σD4,ok4,q4⟩⟩
  ·have e:i=ds.length:=by omega
   subst e;rw[List.drop_length]at q';exact .inl ⟨it.stop H' pr,σD',ok',s1.pers.trans pr,q'⟩⟩
variable {ta tb:DTE}
def zqy(i:Nat)(te:DTE):DTS:=λDn σ=>match σ[i]? with
 |some (some (.own (.lst xs)))=>te σ λd=>xs.length<sizeLine/\Dn.nx (clr (σ.set i (some (.own (.lst (xs ++ [d]))))))
 |_=>False
theorem jg(i:Nat){x:Str}{p1 apos cpos:Pos}(he:DE X e te)(hN:X.N[i]?=some x:=by rfl)(hv:Vis X.env.scope x:=by first|exact Or.inl rfl|exact Or.inr (Or.inl rfl)|exact Or.inr (Or.inr rfl))(hd:(x ==("__debug__" : Str))=false:=by decide)
  (hcd:(x ==("__classdict__" : Str))=false:=by decide)
  (hbase:attributeBase (.Name x p1) "append" X.env (eval (.Name x p1) X.env)=eval (.Name x p1) X.env:=by rfl)
  (hfew:((backTo cpos (starEach (e :: []) X.env)).all (λx=>!x.1) && (backToKw cpos (keywordEach [] X.env)).all (λx=>x.1.isSome)
   && decide ((e :: []).length+([]:List Keyword).length+(if ([]:List Keyword).isEmpty then 0 else 1)<30))=true:=by rfl)
  (hline:(apos.endLine == cpos.line)=true:=by rfl) (hst:starEach (e :: []) X.env=(false,eval e X.env)::starEach [] X.env:=by rfl) (hplain:(backTo cpos (starEach [] X.env)).any (·.1)=false:=by rfl)
  (hs:swapsWith (.Call (.Attribute (.Name x p1) "append" apos) [e] [] cpos) none pos.line X.env=pure false:=by rfl):DS X (.Expr (.Call (.Attribute (.Name x p1) "append" apos) [e] [] cpos) pos) (zqy i te) :=
 DS.of (zf9 (zkq PySem.F.plainAttrs_list PySem.F.slot_list_append PySem.F.type_list_append je (wm (i:=i) hN hv hd hcd) (xv he.pe vz hst) hbase hfew hline hst hplain) hs) λσ H H₀ σD Dn ok q=>by
  unfold zqy at q
  split at q
  ·next xs eo=>
   obtain⟨a,vs,e1,e2,r,n⟩:=ok.ownL eo;refine⟨.ref a,e1,.inl ⟨rfl,vs,SqL.of e2⟩,H₀,σD,_,ok,q,λv H1 d s1 r1 q1=>?_⟩;refine⟨a,vs,v,rfl,rfl,s1 _ _ e2,by rw[<-r.length];exact q1.1,_,(ok.after s1).write eo e1 (s1 _ _ e2) ((r.same s1).append (.cons r1 .nil)),s1.pers.trans (w5 (s1 _ _ e2) rfl),q1.2⟩
  ·exact q.elim
def zor(i:Nat)(ti te:DTE):DTS:=λDn σ=>te σ λd=>match σ[i]? with
 |some (some (.own (.lst xs)))=>ti σ λk=>match k with
  |.int k=>∃j,ixN xs.length k=some j/\Dn.nx (clr (σ.set i (some (.own (.lst (xs.set j d))))))
  |_=>False
 |_=>False
theorem zk0(i:Nat){ie:Expr}{x:Str}{p1 tpos:Pos}(he:DE X e te)(hi:DE X ie ta)(hN:X.N[i]?=some x:=by rfl)(hv:Vis X.env.scope x:=by first|exact Or.inl rfl|exact Or.inr (Or.inl rfl)|exact Or.inr (Or.inr rfl))(hd:(x ==("__debug__" : Str))=false:=by decide)
  (hcd:(x ==("__classdict__" : Str))=false:=by decide)
  (ha:∀v,assign (.Subscript (.Name x p1) ie tpos) X.env v=(do
   let ov <-holding [v] (eval (.Name x p1) X.env)
   let iv <-holding [v,ov] (eval ie X.env)
   standAt tpos
   holding [v,ov,iv] (setItem ov iv v)
   release [v,ov,iv] []):=by intro _;rfl)
  (hs:swapsWithSole [.Subscript (.Name x p1) ie tpos] e pos.line X.env=pure false:=by rfl) (hw:swappedStores [.Subscript (.Name x p1) ie tpos] e X.env=pure none:=by rfl)
  (h1:(assignEach [.Subscript (.Name x p1) ie tpos] X.env).map (·.2) = [assign (.Subscript (.Name x p1) ie tpos) X.env]:=by rfl):DS X (.Assign [.Subscript (.Name x p1) ie tpos] e pos) (zor i ta te) :=
 DS.of (zds he.pe (zga (wm (i:=i) hN hv hd hcd) hi.pe zbk ha) hs hw h1) λσ H H₀ σD Dn ok q=>⟨H₀,σD,_,ok,q,λv H1 d s1 r1 q1=>by
  split at q1
  ·next xs eo=>
   obtain⟨a,vs,e1,e2,r,n⟩:=(ok.after s1).ownL eo;refine⟨.ref a,e1,H₀,σD,_,ok.after s1,q1,λw H2 k s2 r2 q2=>?_⟩
   cases k with
   |int k=>
    cases r2;obtain⟨j,ej,q2⟩:=q2;exact⟨a,vs,k,j,rfl,rfl,s2 _ _ e2,by rw[<-r.length];exact ej,_,((ok.after s1).after s2).write eo e1 (s2 _ _ e2) (Reps.set (r1.same s2) j (r.same s2)),(s1.pers.trans s2.pers).trans (w5 (s2 _ _ e2) rfl),q2⟩
   |_=>exact q2.elim
  ·exact q1.elim⟩
end
def jo(N:List Str)(ws:List W):DSt:=ws.map some++List.replicate (N.length-ws.length) none
section
variable {P:Program}{w:World}{K:PySem.W.Frag}{mg:Str->Option Value}{base:Heap}
theorem DOk.begin{H:Hp}{ws:List W}{vs:List V}(r:RepWs K H ws vs)(N:List Str):DOk K H H (jo N ws) (start N vs):=by
 refine⟨Same.refl _,[],?_,List.nodup_nil,λa ha=>by cases ha⟩;unfold jo start;rw[<-r.length];generalize N.length-ws.length=n;have rep:∀n:Nat,Slots K H H (List.replicate n none) (List.replicate n none) []:=λn=>by
  induction n with
  |zero=>exact .nil
  |succ n ih=>exact .none ih
 induction r with
 |nil=>exact rep n
 |@cons w' v ws vs r t ih=>
  cases w' with
  |val d=>exact .val r ih
  |vw xs=>exact .vw r ih
  |vd xs=>exact .vd r ih
  |exc xs=>exact .exc r ih
  |scr ns=>obtain⟨a,rfl,r⟩:=r;exact .scr r ih
  |pen=>obtain⟨a,rfl,r⟩:=r;exact .pen r ih
  |tmp d=>exact r.elim
  |own o=>exact r.elim
theorem Fun.dok{x qual:Str}{st:Stmt}{f:Addr}{fd:FuncData}{N ps:List Str}{k:Nat}{sp:DSp}(F:Fun K x qual st f fd)(S:yb N ps (zd st))(len:∀ws Q,sp ws Q->ws.length=ps.length)
  (hbody:∀(cdv:Value) (A:Around) (outer:List Env) (s:Shared) (H:Hp) (ws:List W) (Q:Ret->Prop) (E:XK),Room k (A.deeper (envOfC qual (zd st) s.heap.objs.size f cdv))->sp ws Q ->
   ∃t,DSs (zgc CX0 P w K mg base N qual (zd st) f cdv A outer s H E).nox (zj st) t/\t { nx:=λ_=>Q (.val .none),rt:=Q } (jo N ws)):FnOk P w K mg base CX0 (k+1) f fd ps (yh K sp):=by
 refine F.ok S (λvs H Q E h=>?_) λcdv A outer s H vs Q E hr h=>?_
 ·obtain⟨ws,QD,r,q,_⟩:=h;rw[<-r.length];exact len ws QD q
 ·obtain⟨ws,QD,r,q,kk⟩:=h;obtain⟨t,ht,hq⟩:=hbody cdv A outer s H ws QD E hr q;refine⟨_,ht.ps,H,_,_,DOk.begin r N,hq,λσ' H' σD' ok' p' q'=>kk .non H' (.val .none) ok'.same .non q',λv H' r' sm rp qr=>kk v H' r' sm rp qr,λ_ _ _ _ _ z=>z.elim,λ_ _ _ _ _ z=>z.elim⟩
end
def zos:Sp:=λvs H Q _=>∃(p:Addr) (m:Int),vs = [.ref p,.int m]/\0<m/\m<10000000000000000000000000000000000000000000000000000000000000/\Pen H p/\∀(v:Int) H',0<=v->v<m->Pen H' p->But p H H'->Q (.int v) H'
def vm:DSp:=λws Q=>∃m:Int,ws = [.pen,.val (.int m)]/\0<m/\m<10000000000000000000000000000000000000000000000000000000000000/\∀v:Int,0<=v->v<m->Q (.val (.int v))
theorem zub{P:Program}{w:World}{K:PySem.W.Frag}{mg:Str->Option Value}{base:Heap}{k:Nat}{f:Addr}{fd:FuncData}{ps:List Str}(F:FnOk P w K mg base CX0 k f fd ps zos):FnOk P w K mg base CX0 k f fd ps (yh K vm):=by
 refine⟨λvs H Q E h=>?_,λA outer s H args us vs Q E hr e0 hb hv hs=>?_⟩
 ·obtain⟨ws,QD,rw',⟨m,rfl,hm,hM,q⟩,kk⟩:=h
  cases rw' with
  |cons r1 t=>cases t with
   |cons r2 t=>
    cases t;obtain⟨p,rfl,hp⟩:=r1;have r2:Rep K H (.int m) _:=r2
    cases r2;exact F.len [.ref p,.int m] (upd H p (.lst [.int 0,.int 0,.int 0])) (λ_ _=>True) E ⟨p,m,rfl,hm,hM,⟨0,0,0,z9⟩,λ_ _ _ _ _ _=>trivial⟩
 ·obtain⟨ws,QD,rw',⟨m,rfl,hm,hM,q⟩,kk⟩:=hs
  cases rw' with
  |cons r1 t=>cases t with
   |cons r2 t=>
    cases t;obtain⟨p,rfl,hp⟩:=r1;have r2:Rep K H (.int m) _:=r2
    cases r2;obtain⟨⟨x,y,z,tx,ty,tz,n,e⟩,_,_⟩:=e0.hok p _ hp;have mu:Mut (H p):=by rw[hp];exact trivial
    have hok1:HOk P w (upd H p (.lst [.int x,.int y,.int z])) s.heap:=e0.hok.write (h':=s.heap) mu (.inl rfl) (λb u _ q=>q) ⟨_,e⟩ ⟨by show 3<=sizeLine;decide,[_,_,_],n,.cons ⟨_,rfl⟩ (.cons ⟨_,rfl⟩ (.cons ⟨_,rfl⟩ .nil)),e⟩;have nn:∀b,H b=none->b≠p:=λb h z=>by rw[z,hp]at h;cases h
    have e1:Env0 P w K mg base A outer s (upd H p (.lst [.int x,.int y,.int z])):=⟨e0.frames,e0.mod,λb o h=>⟨(e0.bs b o h).1,by rw[ya (nn b (e0.bs b o h).2)];exact(e0.bs b o h).2⟩,e0.bsz,e0.funs,λb hb=>by rw[ya (nn b (e0.frf b hb))];exact e0.frf b hb,hok1,e0.bare⟩
    refine codeAny_mono (F.run A outer s _ args us [.ref p,.int m] (λv H'=>∃i,v=.int i/\0<=i/\i<m/\Pen H' p/\But p (upd H p (.lst [.int x,.int y,.int z])) H') E hr e1 hb hv ⟨p,m,rfl,hm,hM,⟨x,y,z,z9⟩,λv H' h1 h2 h3 h4=>⟨v,rfl,h1,h2,h3,h4⟩⟩) λr s' z=>?_
    cases r with
    |error e=>exact z
    |ok fl=>
     cases fl with
     |ret u=>
      obtain⟨v,H',os,bare,un,hok',rv,i,rfl,h1,h2,⟨a',b',c',hp'⟩,bt⟩:=z;obtain⟨zz,its,n',r',e'⟩:=hok' p _ hp';have pk:∃(x y z:Int) (tx ty tz:Tok),its = [.int x tx,.int y ty,.int z tz]:=by
       cases r' with
       |cons r1 r=>cases r with
        |cons r2 r=>cases r with
         |cons r3 r=>
          cases r;obtain⟨t1,rfl⟩:=r1;obtain⟨t2,rfl⟩:=r2;obtain⟨t3,rfl⟩:=r3;exact⟨_,_,_,_,_,_,rfl⟩
      obtain⟨x',y',z',tx',ty',tz',rfl⟩:=pk;have np:∀{b:Addr}{u:HO},H b=some u->u≠zb6 p->b≠p:=λ{b u} h n z=>by rw[z,hp]at h;cases h;exact n rfl
      have hpen:∀{b:Addr},b≠p->upd H' p (zb6 p) b=H' b:=λh=>ya h;refine⟨.int i,upd H' p (zb6 p),os,bare,⟨λb o h n'=>un.keep b o h (by rw[ya (nn b n')];exact n'),λb o h n'=>un.slot b o h (by rw[ya (nn b n')];exact n'),λb o h n' hx=>?_,un.there,λb xs h=>?_,λb o u h=>?_,λb ps h=>?_⟩,?_,rv,kk (.int i) _ (.val (.int i)) (λb o h=>?_) (show Rep K _ (.int i) (.int i) from .int) (q i h1 h2)⟩
      ·rw[hpen (nn b n')];exact un.free b o h (by rw[ya (nn b n')];exact n') hx
      ·have nb:=np h (by unfold zb6;intro z;cases z);rw[hpen nb];exact un.tups b xs (by rw[ya nb];exact h)
      ·have nb:=np h (by unfold zb6;intro z;cases z);rw[hpen nb];exact un.frzs b o u (by rw[ya nb];exact h)
      ·have nb:=np h (by unfold zb6;intro z;cases z);obtain⟨more,e2⟩:=un.tbls b ps (by rw[ya nb];exact h);exact⟨more,by rw[hpen nb];exact e2⟩
      ·exact hok'.write (h':=s'.heap) (by rw[hp'];exact trivial) (.inl rfl) (λb u _ q=>q) ⟨_,e'⟩ (zkr e')
      ·by_cases hb:b=p
       ·subst hb;rw[hp]at h
        cases h;exact z9
       ·rw[ya hb];exact bt b o hb (by rw[ya hb];exact h)
     |next=>exact z
     |brk=>exact z
     |cont=>exact z
section
variable {prog:Program}{w:World}{A:Around}{E:Value->Shared->Prop}{s:Shared}
theorem zfr{it t:Addr}{items:Array Value}(hne:t≠it):∀(n i:Nat) (s:Shared) (Q:List Value->Shared->Prop),s.heap.IsListIter it t i->s.heap.IsList t items->i+n<=items.size ->
  (∀h',h'.IsListIter it t (i+n)->Heap.SameBut it s.heap h'->Q ((items.toList.drop i).take n) { s with heap:=h' })->wpAny (model prog w) A (draw (.ref it) n) Q E s
 |0,i,s,Q,hit,_,_,hQ=>by
  show wpAny _ _ (pure []) Q E s;exact wpAny_pure (by simpa using hQ s.heap hit (Heap.SameBut.refl ..))
 |n+1,i,s,Q,hit,ht,hle,hQ=>by
  have hlt:i<items.size:=by omega
  show wpAny _ _ (pyNext (.ref it) >>= _) Q E s;refine wpAny_bind (wpAny_pyNext_list_item hit ht (x:=items[i]) (by simp[hlt]) λh₁ hit₁ hs₁=>?_);have ht1:h₁.IsList t items:=by obtain⟨o,e,r⟩:=ht;exact⟨o,(hs₁.2 t hne).trans e,r⟩
  refine wpAny_bind (wpAny_holding (zfr hne n (i+1) _ _ hit₁ ht1 (by omega) λh₂ hit₂ hs₂=>wpAny_pure ?_));have hd:items.toList.drop i=items[i]::items.toList.drop (i+1):=by simp[List.drop_eq_getElem_cons,hlt]
  have:=hQ h₂ (by rw[show i+(n+1)=i+1+n by omega];exact hit₂) (hs₁.trans hs₂);rw[hd,List.take_succ_cons]at this;exact this
theorem zcb{t:Addr}{items:Array Value}{Q:List Value->Shared->Prop}(hh:A.handled=none)(ht:s.heap.IsList t items)
  (hQ:∀h',Heap.ExtBut s.heap.objs.size s.heap h'->Q items.toList { s with heap:=h' }):wpAny (model prog w) A (unpackItems (.ref t) items.size none) Q E s:=by
 have hlt:t≠s.heap.objs.size:=by obtain⟨o,ho,_⟩:=ht;exact Nat.ne_of_lt (Heap.lt_size ho)
 have push:∀o:Obj,(s.heap.push o).IsList t items:=λo=>by obtain⟨o',e,r⟩:=ht;exact⟨o',Heap.get?_push_of_some _ e,r⟩
 unfold unpackItems;refine wpAny_bind ?_
 ·unfold notIterableAtAll;refine wpAny_bind (wpAny_specialOf ht.typeIs slot_list_iter.lookup ?_);refine wpAny_pure ?_;simp only[Bool.false_eq_true,if_false];refine wpAny_bind (wpAny_holding (wpAny_pyIter_list ht ?_));refine wpAny_bind (wpAny_holding (zfr hlt items.size 0 _ _ ⟨_,Heap.get?_push_size _ rfl,rfl,rfl⟩ (push _) (by omega) λh₁ hit₁ hs₁=>?_))
  have hall:List.take items.size (List.drop 0 items.toList)=items.toList:=by
   rw[List.drop_zero];exact List.take_of_length_le (by simp)
  rw[hall];rw[if_neg (by simp)];have ht₁:h₁.IsList t items:=by obtain⟨o',e,r⟩:=push { cls:=.type "list_iterator",data:=.fields #[.ref t,.int 0 0] };exact⟨o',(hs₁.2 t hlt).trans e,r⟩
  refine wpAny_bind (wpAny_holding (wpAny_pyNext_list_end hh hit₁ ht₁ (by simp) λh₂ he₂=>?_));simp only[Option.isSome_none,Bool.false_eq_true,if_false];refine wpAny_pure (hQ h₂ λb o hb e=>he₂ b o hb (hs₁.extBut b o hb (Heap.get?_push_of_some _ e)))
theorem zbp{env:Env}{elts:List Expr}{x1}{pos:Pos}{t:Addr}{items:Array Value}{Q:Unit->Shared->Prop}(hh:A.handled=none)(ht:s.heap.IsList t items)
  (hn:(assignEach elts env).length=items.size) (hstar:(assignEach elts env).findIdx? (·.1)=none)
  (h:∀h',Heap.ExtBut s.heap.objs.size s.heap h'->wpAny (model prog w) A (assignInOrder ((assignEach elts env).map (·.2)) items.toList) Q E { s with heap:=h' }) :
  wpAny (model prog w) A (assign (.Tuple elts x1 pos) env (.ref t)) Q E s:=by
 rw[assign_Tuple];refine wpAny_bind (wpAny_standAt ?_);unfold unpack;rw[hn,hstar];exact wpAny_bind (wpAny_holding (zcb hh ht h))
end
section
variable {X:Cx}{tg iter e:Expr}{es:List Expr}{te:DTE}{tf:DTF}{p pos:Pos}
def zot(n:Nat)(gs:zgp):DTG:=λd σ Q=>match d with
 |.tuple xs=>xs.length=n/\gs xs σ Q
 |.list xs=>xs.length=n/\gs xs σ Q
 |_=>False
theorem yv{k:Nat}{is:List Nat}{gs:zgp}{n:Nat}(hc:X.calm=true)(h:DGs X es is gs)(hn:(assignEach es X.env).length=n:=by rfl)(hst:(assignEach es X.env).findIdx? (·.1)=none:=by rfl):DG X (.Tuple es k pos) is (zot n gs):=⟨λpins s σ H H₀ σD v u d Q I ok r rp q=>by
 cases d with
 |tuple xs=>exact(zt6 (k:=k) (pos:=pos) hc h hn hst).run pins s σ H H₀ σD v u _ Q I ok r rp q
 |list xs=>
  obtain⟨hl,q⟩:=q
  cases rp with
  |lst hq rr=>
   cases r;obtain⟨its,rv,ht,hz⟩:=I.list (.inl (.inr ⟨_,hq⟩));refine zbp (I.ok.hd hc) ht.isList (by simp[hn,<-hl,<-rv.length,rr.length]) hst λh' hx=>?_;have I1:Inv X pins σ H { s with heap:=h' }:=I.kept (t':=s.toks) λb o e=>hx b o (Nat.ne_of_lt (Heap.lt_size e)) e;exact h.run pins _ σ H H₀ σD _ _ xs Q I1 ok (by simpa using rv) rr q
 |_=>exact q.elim⟩
variable {elt:Expr}{ifs:List Expr}{scope:Scope}{cl:List (Str×Addr)}{N' capt:List Str}{k:Nat}{js is:List Nat}{ti:DTF}{g:DTG}{tt:DTT}
theorem zmp{i:Nat}{x:Str}{pos' spos:Pos}(hN:X.N.Nodup)(hi':X.N[i]?=some x)(hx:Loc X.env.scope x)(hc:X.calm=true)(L:ze6 X scope cl N' capt k js)
  (hi:DIw X tg iter ti) (hg:∀C fp s2 H2,DG (yy X N' scope cl C fp s2 H2) tg is g) (ht:∀C fp s2 H2,DTs (yy X N' scope cl C fp s2 H2) ifs tt) (he:∀C fp s2 H2,DE (yy X N' scope cl C fp s2 H2) elt te)
  (his:∀j∈is,j<k) (hsw:swapsWith (.ListComp elt [⟨tg,iter,ifs,0⟩] scope pos) (some (.Name x pos')) spos.line X.env=pure true) (hs:∀x,foldedSetIterable iter X.env x=pure x) (hf:X.fn x=true\/X.env.scope.names.lookup x=some .local)
  {pins:List (Addr×Obj)}{s:Shared}{σ:St}{H H₀:Hp}{σD:DSt}{Q:List D->Prop} (I:Inv X pins σ H s) (ok:DOk X.K H₀ H σD σ) (q:dLC k js ti g tt te σD Q) :
  wpAny (model X.prog X.w) X.A (exec (.Assign [.Name x pos'] (.ListComp elt [⟨tg,iter,ifs,0⟩] scope pos) spos) X.env) (λf s'=>f=.next/\∃a H' vs xs,Inv X pins (σ.set i (some (.ref a))) H' s'/\Same H H'/\H a=none/\H' a=some (.lst vs)/\Reps X.K H' xs vs/\Q xs) X.xe s:=by
 refine thn (zhk (wi:=cnI X.K Same ti) (g:=cnG X.K is g) (tt:=cnT X.K tt) (te:=cnE X.K te) hN hi' hx hc L hi.pi (λC fp s2 H2=>(hg C fp s2 H2).pg) (λC fp s2 H2=>(ht C fp s2 H2).pts) (λC fp s2 H2=>(he C fp s2 H2).pe) hsw hs hf pins s σ H
  { nx:=λσ' H'=>∃a vs xs,σ'=σ.set i (some (.ref a))/\Same H H'/\H a=none/\H' a=some (.lst vs)/\Reps X.K H' xs vs/\Q xs,rt:=λ_ _=>False } I ?_) λf s' z=>?_
 ·refine⟨H₀,σD,_,ok,q,λJ H1 ds s1 it q1 Dd hn=>?_⟩
  have z:=zhr (k:=k) (js:=js) (is:=is) (gL:=cnG X.K is g) (Dd:=Dd) (ok.after s1) it q1.1 (λd v σ' H' Q σ0 ok0 r0 q0=>⟨H1,σ0,d,Q,ok0,r0,q0,λσ2 σD2 l2 ok2 f2 q2=>⟨rfl,l2,f2,σD2,ok2,q2⟩⟩)
   (λv σ' H' Q Q' m zq7=>by obtain⟨a,b,c,d,e1,e2,e3,e4⟩:=zq7;exact⟨a,b,c,d,e1,e2,e3,λσ2 σD2 l o f q=>m _ _ (e4 σ2 σD2 l o f q)⟩) his hn q1.2
  obtain⟨W,w0,turn⟩:=z;refine⟨W,w0,λi m σ' H' w=>?_⟩;rcases turn i m σ' H' w with⟨st,aa,vs,xs,e,sm,n,e2,r,qd⟩|h
  ·exact .inl ⟨st,aa,vs,xs,by rw[e],s1.trans sm,s1.free n,e2,r,qd⟩
  ·exact .inr h
 ·cases f with
  |next=>obtain⟨σ',H',I',a,vs,xs,rfl,sm,n,e,r,q⟩:=z;exact⟨rfl,a,H',vs,xs,I',sm,n,e,r,q⟩
  |ret u=>obtain⟨_,_,_,_,_,z⟩:=z;exact z.elim
  |brk=>obtain⟨_,_,_,z⟩:=z;exact z.elim
  |cont=>obtain⟨_,_,_,z⟩:=z;exact z.elim
theorem j8{i:Nat}{x:Str}{pos' spos:Pos}(hN:X.N.Nodup)(hi':X.N[i]?=some x)(hx:Loc X.env.scope x)(hc:X.calm=true)(L:ze6 X scope cl N' capt k js)
  (hi:DIw X tg iter ti) (hg:∀C fp s2 H2,DG (yy X N' scope cl C fp s2 H2) tg is g) (ht:∀C fp s2 H2,DTs (yy X N' scope cl C fp s2 H2) ifs tt) (he:∀C fp s2 H2,DE (yy X N' scope cl C fp s2 H2) elt te)
  (his:∀j∈is,j<k:=by decide) (hsw:swapsWith (.ListComp elt [⟨tg,iter,ifs,0⟩] scope pos) (some (.Name x pos')) spos.line X.env=pure true:=by rfl) (hs:∀x,foldedSetIterable iter X.env x=pure x:=by intro _;rfl) (hf:X.fn x=true\/X.env.scope.names.lookup x=some .local:=by first|exact .inl rfl|exact .inr rfl|assumption) :
  DS X (.Assign [.Name x pos'] (.ListComp elt [⟨tg,iter,ifs,0⟩] scope pos) spos) (zqw i (dFz (dLC k js ti g tt te))):=⟨λpins s σ H H₀ σD Dn I ok q=>by
 refine thn (zmp hN hi' hx hc L hi hg ht he his hsw hs hf I ok q) λf s' zr83=>?_;obtain⟨ef,a,H',vs,xs,I',sm,n,e,r,qd⟩:=zr83;subst ef;obtain⟨H'',J,sm',r'⟩:=zb7 I' sm n e r;exact⟨_,H'',_,J,(ok.after sm').setV r' i,sm'.pers,qd⟩⟩
inductive RepRs(K:PySem.W.Frag):Hp->Hp->List Ret->List V->Prop
 |nil {H H':Hp} (s:Same H H'):RepRs K H H' [] []
 |val {H H1 H':Hp}{d:D}{v:V}{rs:List Ret}{vs:List V} (s:Same H H1) (r:Rep K H1 d v) (t:RepRs K H1 H' rs vs):RepRs K H H' (.val d::rs) (v::vs)
 |new {H H1 H':Hp}{xs:List D}{a:Addr}{ws:List V}{rs:List Ret}{vs:List V} (s:Same H H1) (n:H a=none) (e:H1 a=some (.lst ws)) (r:Reps K H1 xs ws) (t:RepRs K H1 H' rs vs):RepRs K H H' (.new xs::rs) (.ref a::vs)
theorem RepRs.same{K:PySem.W.Frag}{H H':Hp}{rs:List Ret}{vs:List V}(h:RepRs K H H' rs vs):Same H H':=by
 induction h with
 |nil s=>exact s
 |val s _ _ ih=>exact s.trans ih
 |new s _ _ _ _ ih=>exact s.trans ih
theorem RepRs.length{K:PySem.W.Frag}{H H':Hp}{rs:List Ret}{vs:List V}(h:RepRs K H H' rs vs):rs.length=vs.length:=by
 induction h with
 |nil s=>rfl
 |val s _ _ ih=>simp[ih]
 |new s _ _ _ _ ih=>simp[ih]
abbrev DTM:=DSt->(List Ret->Prop)->Prop
structure DM(X:Cx)(es:List Expr)(t:DTM):Prop where
 run:∀(pos:Pos) (pins:List (Addr×Obj)) (s:Shared) (σ:St) (H H₀:Hp) (σD:DSt) (Q:List Ret->Prop),Inv X pins σ H s->DOk X.K H₀ H σD σ->t σD Q ->
  wpAny (model X.prog X.w) X.A (spliced (backTo pos (starEach es X.env))) (λus s'=>∃vs H' rs,Inv X pins σ H' s'/\Vals vs us/\RepRs X.K H H' rs vs/\Q rs) X.xe s
def cnM(K:PySem.W.Frag)(t:DTM):TA:=λσ H Q=>∃H₀ σD QD,DOk K H₀ H σD σ/\t σD QD/\∀vs H' rs,RepRs K H H' rs vs->QD rs->Q vs H'
theorem DM.pa{t:DTM}(h:DM X es t):PA X es (cnM X.K t):=λpos pins s σ H Q I zq65=>by obtain⟨H₀,σD,QD,ok,q,k⟩:=zq65;exact thn (h.run pos pins s σ H H₀ σD QD I ok q) λus s' zq60=>by obtain⟨vs,H',rs,I',r,rp,qd⟩:=zq60;exact⟨vs,H',I',r,k vs H' rs rp qd⟩
def zou:DTM:=λ_ Q=>Q []
def zov(t:DTE)(r:DTM):DTM:=λσ Q=>t σ λd=>r σ λrs=>Q (.val d::rs)
def zow(t:DTF)(r:DTM):DTM:=λσ Q=>t σ λxs=>r σ λrs=>Q (.new xs::rs)
theorem zuc:DM X [] zou:=⟨λpos pins s σ H H₀ σD Q I ok q=>thn (vz pos pins s σ H (λvs H'=>vs = []/\H'=H) I ⟨rfl,rfl⟩) λus s' zq48=>by obtain⟨vs,H',I',r,e1,e2⟩:=zq48;subst e1 e2;exact⟨[],H',[],I',r,.nil (Same.refl _),q⟩⟩
theorem zjk{r:DTM}(ha:DE X e te)(hr:DM X es r)(hs:starEach (e::es) X.env=(false,eval e X.env)::starEach es X.env:=by rfl):DM X (e::es) (zov te r):=⟨λpos pins s σ H H₀ σD Q I ok q=>by
 refine thn (xv ha.pe hr.pa hs pos pins s σ H (λvs H'=>∃rs,RepRs X.K H H' rs vs/\Q rs) I ?_) λus s' zq10=>by obtain⟨vs,H',I',r,rs,rp,qd⟩:=zq10;exact⟨vs,H',rs,I',r,rp,qd⟩
 exact⟨H₀,σD,_,ok,q,λv H1 d s1 r1 q1=>⟨H₀,σD,_,ok.after s1,q1,λvs H2 rs r2 q2=>⟨.val d::rs,.val s1 r1 r2,q2⟩⟩⟩⟩
theorem zud{r:DTM}(ha:DF X e tf)(hr:DM X es r)(hs:starEach (e::es) X.env=(false,eval e X.env)::starEach es X.env:=by rfl):DM X (e::es) (zow tf r):=⟨λpos pins s σ H H₀ σD Q I ok q=>by
 refine thn (xv ha.pe hr.pa hs pos pins s σ H (λvs H'=>∃rs,RepRs X.K H H' rs vs/\Q rs) I ?_) λus s' zq10=>by obtain⟨vs,H',I',r,rs,rp,qd⟩:=zq10;exact⟨vs,H',rs,I',r,rp,qd⟩
 exact⟨H₀,σD,_,ok,q,λa H1 ws xs s1 n e r1 q1=>⟨H₀,σD,_,ok.after s1,q1,λvs H2 rs r2 q2=>⟨.new xs::rs,.new s1 n e r1 r2,q2⟩⟩⟩⟩
section
variable {pins:List (Addr×Obj)}{σ:St}{H:Hp}{s:Shared}
theorem RepN.reads(I:Inv X pins σ H s){d:D}{v:V}{u:Value}(h:RepN X.K H d v)(r:RelV v u):∃as,Reads s.heap u d as:=by
 refine RepN.rec (motive_1:=λd v _=>∀u:Value,RelV v u->∃as,Reads s.heap u d as) (motive_2:=λds vs _=>∀us:List Value,Vals vs us->∃as,ReadsAll s.heap us ds as) ?_ ?_ ?_ ?_ ?_ ?_ ?_ ?_ h u r
 ·intro u r;cases r;exact⟨_,.none⟩
 ·intro b u r;cases r;exact⟨_,.bool _⟩
 ·intro i u r;obtain⟨t,rfl⟩:=r;exact⟨_,.int _ _⟩
 ·intro x u r;obtain⟨t,rfl⟩:=r;exact⟨_,.str _ _⟩
 ·intro xs a vs h q ih u r
  cases r;obtain⟨its,rv,⟨o,e1,e2,n,e3⟩,_⟩:=I.tuple h;obtain⟨as,ra⟩:=ih its rv;exact⟨_,.tuple e1 e2 e3 (by simpa using ra)⟩
 ·intro xs a vs h q ih u r
  cases r;obtain⟨z,its,n,rv,e⟩:=h.ok I.hok;obtain⟨as,ra⟩:=ih its rv;exact⟨_,.list e rfl rfl (by simpa using ra)⟩
 ·intro us r;cases r;exact⟨_,.nil⟩
 ·intro d v ds vs q t i j us r
  cases r with
  |cons r1 r2=>
   obtain⟨as,ra⟩:=i _ r1;obtain⟨bs,rb⟩:=j _ r2;exact⟨_,.cons ra rb⟩
end
def zwc(X:Cx)(pins:List (Addr×Obj))(σ:St)(H:Hp)(Q:D->Prop)(u:Value)(s':Shared):Prop:=∃v H' d,Inv X pins σ H' s'/\RelV v u/\Same H H'/\RepN X.K H' d v/\Q d
structure DN(X:Cx)(e:Expr)(t:DTE):Prop where
 run:∀(pins:List (Addr×Obj)) (s:Shared) (σ:St) (H H₀:Hp) (σD:DSt) (Q:D->Prop),Inv X pins σ H s->DOk X.K H₀ H σD σ->t σD Q->wpAny (model X.prog X.w) X.A (eval e X.env) (zwc X pins σ H Q) X.xe s
structure DAn(X:Cx)(es:List Expr)(t:DTF):Prop where
 run:∀(pos:Pos) (pins:List (Addr×Obj)) (s:Shared) (σ:St) (H H₀:Hp) (σD:DSt) (Q:List D->Prop),Inv X pins σ H s->DOk X.K H₀ H σD σ->t σD Q ->
  wpAny (model X.prog X.w) X.A (spliced (backTo pos (starEach es X.env))) (λus s'=>∃vs H' ds,Inv X pins σ H' s'/\Vals vs us/\Same H H'/\RepNs X.K H' ds vs/\Q ds) X.xe s
def cnN(K:PySem.W.Frag)(t:DTE):TE:=λσ H Q=>∃H₀ σD QD,DOk K H₀ H σD σ/\t σD QD/\∀v H' d,Same H H'->RepN K H' d v->QD d->Q v H'
def zxc(K:PySem.W.Frag)(t:DTF):TA:=λσ H Q=>∃H₀ σD QD,DOk K H₀ H σD σ/\t σD QD/\∀vs H' ds,Same H H'->RepNs K H' ds vs->QD ds->Q vs H'
theorem DN.pe{t:DTE}(h:DN X e t):PE X e (cnN X.K t):=λpins s σ H Q I zq63=>by obtain⟨H₀,σD,QD,ok,q,k⟩:=zq63;exact thn (h.run pins s σ H H₀ σD QD I ok q) λu s' zq50=>by obtain⟨v,H',d,I',r,sm,rp,qd⟩:=zq50;exact⟨v,H',I',r,k v H' d sm rp qd⟩
theorem DAn.pa{t:DTF}(h:DAn X es t):PA X es (zxc X.K t):=λpos pins s σ H Q I zq68=>by obtain⟨H₀,σD,QD,ok,q,k⟩:=zq68;exact thn (h.run pos pins s σ H H₀ σD QD I ok q) λus s' zq63=>by obtain⟨vs,H',ds,I',r,sm,rp,qd⟩:=zq63;exact⟨vs,H',I',r,k vs H' ds sm rp qd⟩
theorem DN.of{t:DTE}{t':TE}(h:PE X e t')(k:∀σ H H₀ σD QD,DOk X.K H₀ H σD σ->t σD QD->t' σ H (λv H'=>∃d,Same H H'/\RepN X.K H' d v/\QD d)):DN X e t :=
 ⟨λpins s σ H H₀ σD Q I ok q=>thn (h pins s σ H _ I (k σ H H₀ σD Q ok q)) λu s' zq80=>by obtain⟨v,H',I',r,d,sm,rp,qd⟩:=zq80;exact⟨v,H',d,I',r,sm,rp,qd⟩⟩
def zue(t:DTE):DTE:=λσ Q=>t σ λd=>d.canLay0=true/\Q d
theorem zox{d:D}(c:d.canLay0=true):∀kvs,d ≠ .dict kvs:=λkvs e=>by subst e;simp[PyData.canLay0]at c
theorem DE.dn{t:DTE}(h:DE X e t):DN X e (zue t):=⟨λpins s σ H H₀ σD Q I ok q=>thn (h.run pins s σ H H₀ σD _ I ok q) λu s' zq35=>by obtain⟨v,H',d,I',r,sm,rp,qd⟩:=zq35;exact⟨v,H',d,I',r,sm,rp.now (zox qd.1) qd.1,qd.2⟩⟩
def zk1(i:Nat):DTE:=λσ Q=>match σ[i]? with
 |some (some (.val d))=>d.canLay0=true/\Q d
 |some (some (.own (.lst xs)))=>PyData.canLayAll0 xs=true/\Q (.list xs)
 |some (some (.vw xs))=>PyData.canLayAll0 xs=true/\Q (.list xs)
 |some (some (.tmp d))=>Q d
 |_=>False
theorem zuf(i:Nat){x:Str}{pos:Pos}(hN:X.N[i]?=some x:=by rfl)(hv:Vis X.env.scope x:=by first|exact Or.inl rfl|exact Or.inr (Or.inl rfl)|exact Or.inr (Or.inr rfl))(hd:(x ==("__debug__" : Str))=false:=by decide)
  (hcd:(x ==("__classdict__" : Str))=false:=by decide):DN X (.Name x pos) (zk1 i):=by
 refine DN.of (wm (i:=i) hN hv hd hcd) λσ H H₀ σD QD ok q=>?_;unfold zk1 at q
 split at q
 ·next d e=>
  obtain⟨v,e1,r⟩:=ok.val e;exact⟨v,e1,d,Same.refl _,r.now (zox q.1) q.1,q.2⟩
 ·next xs e=>
  obtain⟨a,vs,e1,e2,r,_⟩:=ok.ownL e;exact⟨.ref a,e1,.list xs,Same.refl _,.lst (.inl e2) (r.now q.1),q.2⟩
 ·next xs e=>
  obtain⟨v,e1,a,vs,rfl,e2,r⟩:=ok.vw e;exact⟨.ref a,e1,.list xs,Same.refl _,.lst e2 (r.now q.1),q.2⟩
 ·next d e=>
  obtain⟨v,e1,r⟩:=ok.tmp e;exact⟨v,e1,d,Same.refl _,r,q⟩
 ·exact q.elim
theorem zgq:DAn X [] znz:=⟨λpos pins s σ H H₀ σD Q I ok q=>thn (vz pos pins s σ H (λvs H'=>vs = []/\H'=H) I ⟨rfl,rfl⟩) λus s' zq49=>by obtain⟨vs,H',I',r,e1,e2⟩:=zq49;subst e1 e2;exact⟨[],H',[],I',r,Same.refl _,.nil,q⟩⟩
theorem zbq{t:DTE}{r:DTF}(ha:DN X e t)(hr:DAn X es r)(hs:starEach (e::es) X.env=(false,eval e X.env)::starEach es X.env:=by rfl):DAn X (e::es) (zhn t r):=⟨λpos pins s σ H H₀ σD Q I ok q=>by
 refine thn (xv ha.pe hr.pa hs pos pins s σ H (λvs H'=>∃ds,Same H H'/\RepNs X.K H' ds vs/\Q ds) I ?_) λus s' zq20=>by obtain⟨vs,H',I',r,ds,sm,rp,qd⟩:=zq20;exact⟨vs,H',ds,I',r,sm,rp,qd⟩
 exact⟨H₀,σD,_,ok,q,λv H1 d s1 r1 q1=>⟨H₀,σD,_,ok.after s1,q1,λvs H2 ds s2 r2 q2=>⟨d::ds,s1.trans s2,.cons (r1.same s2) r2,q2⟩⟩⟩⟩
theorem RepNs.length{K:PySem.W.Frag}{H:Hp}{ds:List D}{vs:List V}(h:RepNs K H ds vs):ds.length=vs.length:=h.ind (P:=λds vs=>ds.length=vs.length) rfl λ_ _ _ _ _ _ j=>congrArg (·+1) j
theorem zug{t:DTF}(h:DAn X es t):DN X (.List es pos) (dFz (zqk t)) :=
 DN.of (zi2 h.pa) λσ H H₀ σD QD ok q=>⟨H₀,σD,_,ok,q,λvs H1 ds s1 r1 q1=>⟨by rw[<-r1.length];exact q1.1,λp hp=>⟨.list ds,s1.trans (yk hp _),.lst (.inl z9) (r1.same (yk hp _)),q1.2⟩⟩⟩
end
section
variable {prog:Program}{w:World}{A:Around}{E:Value->Shared->Prop}{s:Shared}
theorem zuh{b:Bool}{it l:Addr}{items:Array Value}(hh:A.handled=none)(hne:l≠it):Draws prog w A it [it,l] items.size (λi x=>items[i]?=some x) (λi h=>zIt b h it l i/\zSq b h l items) where
 live:=λi h st=>by
  obtain⟨o,e,_⟩:=st.1.own;exact⟨o,e⟩
 frame:=λi h h' st k=>⟨st.1.at λo e=>k it (by simp) o e,by
  cases b
  ·obtain⟨o,e,r⟩:=(show h.IsList l items from st.2);exact(show h'.IsList l items from⟨o,k l (by simp) o e,r⟩)
  ·obtain⟨o,e,r⟩:=(show h.IsTuple l items from st.2);exact(show h'.IsTuple l items from⟨o,k l (by simp) o e,r⟩)⟩
 item:=λi s Q E hi st hQ=>by
  refine jm st.1 st.2 (x:=items[i]) (by simp[hi]) λh' hit' hs'=>?_;refine hQ _ h' s.toks (by simp[hi]) ⟨hit',?_⟩ hs'
  cases b
  ·obtain⟨o,e,r⟩:=(show s.heap.IsList l items from st.2);exact(show h'.IsList l items from⟨o,(hs'.2 l hne).trans e,r⟩)
  ·obtain⟨o,e,r⟩:=(show s.heap.IsTuple l items from st.2);exact(show h'.IsTuple l items from⟨o,(hs'.2 l hne).trans e,r⟩)
 done:=λs Q E st hE=>zan hh st.1 st.2 (by simp) hE
theorem zhu(b:Bool)(l:Addr)(items:Array Value):
  Meets (Builtin.«enumerate.__new__» ⟨[.type "enumerate",.ref l],[]⟩) (λ_ R s=>zSq b s.heap l items /\
   R (.ok (.ret (.ref (s.heap.push (zOb b l)).objs.size)))
    { s with heap:=(s.heap.push (zOb b l)).push { cls:=.type "enumerate",data:=.fields #[.none,.bool false,.ref s.heap.objs.size,rawInt 0,.none,.none] } }) :=
 .of_wp λprog w A R s h=>by
  obtain⟨hp,g,d,tk,os⟩:=s;obtain⟨hl,h⟩:=h;have hsub:=sub_enumerate
  wp_walk
  refine wpAny_stack_any λst=>wpAny_pure ?_
  split
  ·rename_i c _ _ _ _ _
   cases (c == Value.type "enumerate")
   ·wp_walk using zhm hl
    exact⟨_,rfl,h⟩
   ·wp_walk using zhm hl
    exact⟨_,rfl,h⟩
  ·wp_walk using zhm hl
   exact⟨_,rfl,h⟩
theorem zjl{b:Bool}{l:Addr}{items:Array Value}{Q:Value->Shared->Prop}(hL:zSq b s.heap l items)
  (h:∀h',IsEnum h' (s.heap.objs.size+1) s.heap.objs.size 0 .none->zIt b h' s.heap.objs.size l 0->h'.objs.size=s.heap.objs.size+2 ->
   (∀b o,s.heap.get? b=some o->h'.get? b=some o)->Q (.ref (s.heap.objs.size+1)) { s with heap:=h' }) :
  wpAny (model prog w) A (call (.type "enumerate") [.ref l]) Q E s:=by
 refine callType_new F.called_enumerate (by decide) (F.typeCall_enumerate_1 _) (F.newCall_enumerate_1 _) (λobj=>F.args_object_init_2 obj _) F.entry_enumerate_new (zhu b l items) ⟨hL,?_⟩;have hz:(s.heap.push (zOb b l)).objs.size=s.heap.objs.size+1:=Heap.size_push ..;show _/\_;rw[hz];have he:IsEnum ((s.heap.push (zOb b l)).push
   { cls:=.type "enumerate",data:=.fields #[.none,.bool false,.ref s.heap.objs.size,rawInt 0,.none,.none] }) (s.heap.objs.size+1) s.heap.objs.size 0 .none:=by
  have:=Heap.get?_push_size (s.heap.push (zOb b l))
   (o:={ cls:=.type "enumerate",data:=.fields #[.none,.bool false,.ref s.heap.objs.size,rawInt 0,.none,.none] }) rfl
  rw[hz]at this;exact this
 have hi:zIt b ((s.heap.push (zOb b l)).push { cls:=.type "enumerate",data:=.fields #[.none,.bool false,.ref s.heap.objs.size,rawInt 0,.none,.none] }) s.heap.objs.size l 0:=by
  have g:((s.heap.push (zOb b l)).push { cls:=.type "enumerate",data:=.fields #[.none,.bool false,.ref s.heap.objs.size,rawInt 0,.none,.none] }).get? s.heap.objs.size=some (zOb b l):=Heap.get?_push_of_some _ (Heap.get?_push_size _ rfl)
  cases b
  ·exact⟨_,g,rfl,rfl⟩
  ·exact⟨_,g,rfl,rfl⟩
 exact⟨⟨_,he,rfl⟩,h _ he hi (by rw[Heap.size_push,hz]) λb o x=>Heap.get?_push_of_some _ (Heap.get?_push_of_some _ x)⟩
end
def zqz(b:Bool)(K:PySem.W.Frag)(a:Addr):It :=
 ⟨λi H=>∃xs x,SqG b K H a xs/\xs[i]?=some x,λi H v H'=>∃p x,H p=none/\v=.ref p/\H'=upd H p (.tup [.int i,x])/\∀xs,SqG b K H a xs->xs[i]?=some x,λi H=>∃xs,SqG b K H a xs/\xs.length<=i⟩
theorem zjm{P:Program}{w:World}{K:PySem.W.Frag}{b:Bool}{elts:List Expr}{x1}{tpos:Pos}{l e it:Addr}(hne:e≠it)(hle:l≠it)(hel:e≠l):
  zgb P w K (.Tuple elts x1 tpos) (zqz b K l) [e,it] e (λi h=>(∃old,IsEnum h e it i old)/\zIt b h it l i) where
 mem:=by simp
 obj:=λi h st c hb=>by
  obtain⟨⟨old,he⟩,h1⟩:=st;simp only[List.mem_cons,List.not_mem_nil,or_false]at hb;rcases hb with rfl|rfl
  ·exact⟨_,he,λv q=>by cases (show Data.fields _=Data.cell v from q)⟩
  ·exact h1.own
 keep:=λi h h' st k=>by
  obtain⟨⟨old,he⟩,h1⟩:=st;exact⟨⟨old,k _ (by simp) _ he⟩,h1.at λo e=>k it (by simp) o e⟩
 item:=by
  intro X hP hw hK hc i pins s σ H E I hf st hg;subst hP hw hK;obtain⟨xs,x,hq,hx⟩:=hg;obtain⟨⟨old,he⟩,h1⟩:=st;obtain⟨its,rv,p,hz⟩:=I.sqG hq;obtain⟨u,hu,ru⟩:=rv.get hx;have hlt:i<its.toArray.size:=by have:=(List.getElem?_eq_some_iff.mp hu).1;simpa using this
  refine wpAny_pyNext_enum_itemD (zuh (b:=b) (A:=X.A.in1) (I.ok.hd hc) hle) he ⟨h1,p⟩ hlt hne (by simp[hne,hel]) λu' h' tk hu' he' h1' hp' hsz hk=>⟨_,rfl,?_⟩
  have eu:u'=u:=by
   have e1:its.toArray[i]?=some u:=by simpa using hu
   rw[e1]at hu';exact(Option.some.inj hu').symm
  subst eu;refine wpAny_letOwnedTupleGo_enum he' λh'' he'' hsb=>?_;have ne:s.heap.objs.size≠e:=λq=>by have:=Heap.lt_size he;rw[<-q]at this;exact Nat.lt_irrefl _ this
  have hp2:=(hsb.2 _ ne).trans hp';have nb:∀c o,s.heap.get? c=some o->c≠s.heap.objs.size:=λc o e=>Nat.ne_of_lt (Heap.lt_size e);have I1:Inv X pins σ (upd H s.heap.objs.size (.tup [.int i,x])) { s with heap:=h'',toks:=tk+1 }:=by
   refine I.turnedNew (ch:=[e,it]) hf (Nat.le_refl _) (λb u hb e=>?_) ⟨by simp[sizeLine_eq],[.int i tk,u'],.cons ⟨_,rfl⟩ (.cons ru .nil),?_⟩
   ·simp only[List.mem_cons,List.not_mem_nil,or_false,not_or]at hb;exact(hsb.2 b hb.1).trans (hk b u hb.1 hb.2 e)
   ·exact⟨_,hp2,rfl,⟨_,rfl⟩,rfl⟩
  refine⟨.ref s.heap.objs.size,_,I1,rfl,⟨_,x,I.hok.fresh (Nat.le_refl _),rfl,rfl,λxs' h=>by rw[I.sqG_inj h hq];exact hx⟩,⟨⟨_,he''⟩,?_⟩,λb hb=>?_⟩
  ·exact h1'.1.at λo e'=>(hsb.2 _ (Ne.symm hne)).trans e'
  ·rw[ya]
   ·exact(hf b hb).1
   ·intro q;subst q;simp only[List.mem_cons,List.not_mem_nil,or_false]at hb;obtain⟨o1,e1,_⟩:=h1.own;rcases hb with q|q
    ·exact nb _ _ he q.symm
    ·exact nb _ _ e1 q.symm
 done:=by
  intro X hP hw hK hc i pins s σ H E I hf st hg;subst hP hw hK;obtain⟨xs,hq,hl⟩:=hg;obtain⟨⟨old,he⟩,h1⟩:=st;obtain⟨its,rv,p,hz⟩:=I.sqG hq;have e1:=rv.length;have hT:s.TypeIs (.ref e) "enumerate" :=⟨_,he,rfl⟩
  unfold pyNext;refine wpAny_bind (wpAny_attempt (wpAny_callSpecial?_slot (name:=Str.ofString "__next__") hT F.slot_enumerate_next
   (wpAny_call_entry F.slot_enumerate_next hT F.entry_enumerate_next ?_ (F.args_enumerate_next_1 _))))
  show wpAny _ _ (field (.ref e) 2 >>= _) _ _ _;refine wpAny_bind (wpAny_field he rfl (x:=.ref it) rfl ?_);refine wpAny_bind (zan (b:=b) (A:=X.A.in1) (I.ok.hd hc) h1 p (by simp;omega) λh' x he' hx'=>?_);obtain⟨o,ho,hcc⟩:=hx';refine wpAny_bind (wpAny_isInstance (T := "StopIteration") (b:=true) ⟨o,ho,hcc⟩ isSubtype_stop ?_);refine wpAny_pure ⟨rfl,?_⟩;refine I.turnedL (t':=s.toks) (ch:=[e,it]) hf λb u hb e=>?_;simp only[List.mem_cons,List.not_mem_nil,or_false,not_or]at hb;exact he' b u hb.2 e
 self:=λ_ _ _ _ _ st h=>by
  obtain⟨⟨old,he⟩,h1⟩:=st;exact wpAny_pyIter_enum he h
section
variable {X:Cx}{a:Expr}{t:DTF}{p pos:Pos}
theorem zoy{elts:List Expr}{x1}{tpos:Pos}{ta:TA}(hg:Gl X "enumerate")(hm:X.mg "enumerate" = none)(ha:PA X [a] ta)(hs:starEach [a] X.env = [(false,eval a X.env)]:=by rfl):
  PI X (.Tuple elts x1 tpos) (.Call (.Name "enumerate" p) [a] [] pos) (λσ H R=>ta σ H λvs H1=>∃b a,vs = [.ref a]/\(∃xs,SqG b X.K H1 a xs)/\R (zqz b X.K a) H1):=by
 intro pins s σ H R I h;refine Call_ (kx I hg hm boot_enumerate (PyProof.Rows.callWith_type1 (thn (ha pos pins s σ H _ I h) λus s1 ⟨vs,H1,I1,r1,q1⟩=>?_) hs rfl));obtain⟨b,l,e,⟨xs,hq⟩,q⟩:=q1;subst e;obtain⟨v1,rfl,r1'⟩:=r1.one
 cases r1';obtain⟨its,rv,p,hz⟩:=I1.sqG hq;have hlt:=p.lt;refine zjl p λh' he hi hsz hk=>wpAny_pyIter_enum he ?_;have I2:Inv X pins σ H1 { s1 with heap:=h' }:=I1.kept (t':=s1.toks) hk;refine⟨_,[s1.heap.objs.size+1,s1.heap.objs.size],_,_,H1,rfl,I2,zjm (Nat.ne_of_gt (Nat.lt_succ_self _)) (Nat.ne_of_lt hlt) (Nat.ne_of_gt (Nat.lt_succ_of_lt hlt)),⟨⟨_,he⟩,hi⟩,λb hb=>?_,q⟩;have hb':s1.heap.objs.size<=b:=by
  simp only[List.mem_cons,List.not_mem_nil,or_false]at hb;rcases hb with rfl|rfl <;> omega
 exact I1.fpOk hb' (I1.hok.fresh hb')
theorem zq4{K:PySem.W.Frag}{Kp:Hp->Hp->Prop}{H1:Hp}{b:Bool}{a:Addr}{xs:List D}{vs:List V}(kp:∀H,Kp H1 H->SqG b K H a vs/\Reps K H xs vs):ItOk K Kp (zqz b K a) H1 (vj 0 xs) where
 go:=λH i d k e=>by
  obtain⟨hs,r⟩:=kp H k;obtain⟨y,e1,rfl⟩:=zfq e;obtain⟨v,e2,r1⟩:=r.get e1;refine⟨⟨vs,v,hs,e2⟩,λx H' yl=>?_⟩;obtain⟨p,w,hp,rfl,rfl,y⟩:=yl;have:=y vs hs;rw[e2]at this
  cases this;refine⟨yk hp _,.tup (SqT.of z9) (.cons ?_ (.cons (r1.same (yk hp _)) .nil))⟩;rw[Nat.zero_add];exact .int
 stop:=λH k=>by
  obtain⟨hs,r⟩:=kp H k;exact⟨vs,hs,by rw[zca,r.length];exact Nat.le_refl _⟩
def zjn(t:DTF):DTF:=λσ Q=>t σ λds=>match ds with
 |[.list xs]=>Q (vj 0 xs)
 |[.tuple xs]=>Q (vj 0 xs)
 |_=>False
theorem zd2{elts:List Expr}{x1}{tpos:Pos}(hg:Gl X "enumerate")(hm:X.mg "enumerate" = none)(ha:DA X [a] t)(hs:starEach [a] X.env = [(false,eval a X.env)]:=by rfl):
  DI X (.Tuple elts x1 tpos) (.Call (.Name "enumerate" p) [a] [] pos) (zjn t) :=
 ⟨λpins s σ H R I ⟨H₀,σD,QD,ok,q,k⟩=>zoy hg hm ha.pa hs pins s σ H R I ⟨H₀,σD,_,ok,q,λvs H1 ds s1 r1 q1=>by
  have key:∀d xs,ds = [d]->(d=.list xs\/d=.tuple xs)->QD (vj 0 xs)->∃b a,vs = [.ref a]/\(∃xs,SqG b X.K H1 a xs)/\R (zqz b X.K a) H1:=λd xs e1 e2 q2=>by
   subst e1
   cases r1 with
   |cons r t=>
    cases t;obtain⟨b,l,ws,rfl,kk⟩:=r.seqP e2;exact⟨b,l,rfl,⟨ws,(kk _ (Pers.refl _)).1⟩,k _ _ _ s1 (zq4 λH' pr=>kk H' pr) q2⟩
  split at q1
  ·exact key _ _ rfl (.inl rfl) q1
  ·exact key _ _ rfl (.inr rfl) q1
  ·exact q1.elim⟩⟩
end
theorem zk2{f:D->(Option D->Prop)->Prop}(Pv:D->D->Prop):∀{ds:List D}{Q:List D->Prop},(∀d∈ds,∀k:Option D->Prop,(∀y,Pv d y->k (some y))->f d k)->(∀ys,Paired Pv ds ys->Q ys)->lcD f ds Q
 |[],Q,_,q=>q [] .nil
 |d::ds,Q,h,q=>h d List.mem_cons_self _ λy hy=>zk2 Pv (λe he=>h e (List.mem_cons_of_mem _ he)) λys hys=>q (y::ys) (.cons hy hys)
theorem vo{α:Type}{f:D->(Option D->Prop)->Prop}(enc:α->D)(F:α->Option D){as:List α}{Q:List D->Prop}(h:∀a∈as,∀k:Option D->Prop,k (F a)->f (enc a) k)(q:Q (as.filterMap F)):lcD f (as.map enc) Q:=by
 induction as generalizing Q with
 |nil=>exact q
 |cons a as ih=>
  refine h a List.mem_cons_self _ (ih (λe he=>h e (List.mem_cons_of_mem _ he)) ?_);rw[List.filterMap_cons]at q
  cases e:F a with
  |none=>rw[e]at q;exact q
  |some y=>rw[e]at q;exact q
theorem j9{α:Type}{f:D->(Option D->Prop)->Prop}(enc:α->D)(F:α->D){as:List α}{Q:List D->Prop}(h:∀a∈as,∀k:Option D->Prop,k (some (F a))->f (enc a) k)(q:Q (as.map F)):lcD f (as.map enc) Q :=
 vo enc (λa=>some (F a)) h (by rw[List.filterMap_eq_map'];exact q)
theorem zmq{f:D->(Option D->Prop)->Prop}{lo:Int}{n:Nat}{Q:List D->Prop}(F:Nat->D)(h:∀i,i<n->∀k:Option D->Prop,k (some (F i))->f (.int (lo+(i:Nat))) k)(q:Q ((List.range n).map F)):lcD f (y3 lo n) Q:=by
 unfold y3;exact j9 (λi:Nat=>PyData.int (lo+(i:Nat))) F (λa ha=>h a (List.mem_range.mp ha)) q
theorem zjo{f:D->(Option D->Prop)->Prop}{lo:Int}{n:Nat}{Q:List D->Prop}(Pv:D->Prop)(h:∀d,∀k:Option D->Prop,(∀y,Pv y->k (some y))->f d k)(q:∀ys:List D,ys.length=n->(∀y∈ys,Pv y)->Q ys):lcD f (y3 lo n) Q:=by
 refine zk2 (λ_ y=>Pv y) (λd _ k hk=>h d k hk) λys hys=>q ys ?_ ?_
 ·have:=Paired.length hys;rw[<-this];simp[y3]
 ·clear q h;generalize y3 lo n=ds at hys
  induction hys with
  |nil=>intro y hy;cases hy
  |cons r t ih=>intro y hy;rcases List.mem_cons.mp hy with rfl|hy;exact r;exact ih y hy
theorem zgr{α:Type}{Pv:α->Prop}{enc:α->D}:∀{ys:List D},(∀y∈ys,∃a,y=enc a/\Pv a)->∃as:List α,ys=as.map enc/\∀a∈as,Pv a
 |[],_=>⟨[],rfl,λa ha=>by cases ha⟩
 |y::ys,h=>by
  obtain⟨a,rfl,pa⟩:=h y List.mem_cons_self;obtain⟨as,rfl,pas⟩:=zgr λz hz=>h z (List.mem_cons_of_mem _ hz);exact⟨a::as,rfl,λb hb=>by rcases List.mem_cons.mp hb with rfl|hb;exact pa;exact pas b hb⟩
theorem yp{α:Type}(x:α)(xs:List α):atI (x::xs) 0=some x:=by
 have:=zal (xs:=x::xs) (j:=0) (v:=x) rfl;simpa using this
theorem y4{α:Type}(x y:α)(xs:List α):atI (x::y::xs) 1=some y:=by
 have:=zal (xs:=x::y::xs) (j:=1) (v:=y) rfl;simpa using this
theorem v7{α:Type}(x y z:α)(xs:List α):atI (x::y::z::xs) 2=some z:=by
 have:=zal (xs:=x::y::z::xs) (j:=2) (v:=z) rfl;simpa using this
theorem vc{α:Type}(x y z w:α)(xs:List α):atI (x::y::z::w::xs) 3=some w:=by
 have:=zal (xs:=x::y::z::w::xs) (j:=3) (v:=w) rfl;simpa using this
theorem zoz{α:Type}(x y z w v:α)(xs:List α):atI (x::y::z::w::v::xs) 4=some v:=by
 have:=zal (xs:=x::y::z::w::v::xs) (j:=4) (v:=v) rfl;simpa using this
theorem zjp{α:Type}(enc:α->D)(xs:List α)(lo hi:Option Int):∃ys:List α,jb (xs.map enc) lo hi=ys.map enc/\(∀y∈ys,y∈xs)/\ys.length<=xs.length:=by
 refine⟨(xs.drop (HT.sIx xs.length 0 lo)).take (HT.sIx xs.length xs.length hi-HT.sIx xs.length 0 lo),?_,λy hy=>List.mem_of_mem_drop (List.mem_of_mem_take hy),?_⟩
 ·unfold jb;rw[List.length_map,List.map_take,List.map_drop]
 ·rw[List.length_take,List.length_drop];omega
structure Sh(d:D)(n k:Nat):Prop where
 can:d.canLay0=true
 sho:d.showable=true
 dep:d.depth<=k
 len:d.shown.length<=n
theorem Sh.mono{d:D}{n k n' k':Nat}(h:Sh d n k)(h1:n<=n')(h2:k<=k'):Sh d n' k':=⟨h.can,h.sho,Nat.le_trans h.dep h2,Nat.le_trans h.len h1⟩
theorem Sh.none:Sh .none 4 0:=⟨rfl,rfl,Nat.le_refl _,Nat.le_of_ble_eq_true rfl⟩
theorem zui{i:Int}(h:i.natAbs<10 ^ 40):i.natAbs.log2<1920:=by
 by_cases h0:i.natAbs=0
 ·rw[h0];decide
 ·exact(Nat.log2_lt h0).mpr (Nat.lt_of_lt_of_le h (Nat.le_trans (by decide:10 ^ 40<=2 ^ 200) (Nat.pow_le_pow_right (by decide) (by decide))))
theorem Sh.int{i:Int}(h:i.natAbs<10 ^ 40):Sh (.int i) 41 0 :=
 ⟨rfl,by simp only[PyData.showable];exact decide_eq_true (zui h),Nat.le_refl _,by
  have:=int_text_length_le10 (a:=i) (k:=40) (by decide) h;simp only[PyData.shown];show(Str.ofString (toString i)).length<=41;rw[PySem.ofString_length];exact this⟩
theorem Sh.intB{i:Int}(h1 : -1000000000000000000000000000000000000000<=i)(h2:i<=1000000000000000000000000000000000000000):Sh (.int i) 41 0:=Sh.int (by omega)
theorem zcc:∀{xs:List D}{n k:Nat},(∀x∈xs,Sh x n k)->PyData.canLayAll0 xs=true
 |[],_,_,_=>rfl
 |x::xs,n,k,h=>by simp only[PyData.canLayAll0,(h x List.mem_cons_self).can,zcc λy hy=>h y (List.mem_cons_of_mem _ hy),Bool.and_self]
theorem zcd:∀{xs:List D}{n k:Nat},(∀x∈xs,Sh x n k)->PyData.showableAll xs=true
 |[],_,_,_=>rfl
 |x::xs,n,k,h=>by simp only[PyData.showableAll,(h x List.mem_cons_self).sho,zcd λy hy=>h y (List.mem_cons_of_mem _ hy),Bool.and_self]
theorem zce:∀{xs:List D}{n k:Nat},(∀x∈xs,Sh x n k)->PyData.depthAll xs<=k
 |[],_,_,_=>Nat.zero_le _
 |x::xs,n,k,h=>by
  simp only[PyData.depthAll];exact Nat.max_le.mpr ⟨(h x List.mem_cons_self).dep,zce λy hy=>h y (List.mem_cons_of_mem _ hy)⟩
theorem zcf:∀{xs:List D}{n k:Nat},(∀x∈xs,Sh x n k)->((PyData.shownAll xs).map (·.length)).sum<=xs.length * n
 |[],_,_,_=>by simp[PyData.shownAll]
 |x::xs,n,k,h=>by
  simp only[PyData.shownAll,List.map_cons,List.sum_cons,List.length_cons];have h1:=(h x List.mem_cons_self).len;have h2:=zcf λy hy=>h y (List.mem_cons_of_mem _ hy);rw[Nat.succ_mul];omega
theorem qf:∀xs:List D,(PyData.shownAll xs).length=xs.length
 |[]=>rfl
 |x::xs=>by simp only[PyData.shownAll,List.length_cons,qf xs]
theorem Sh.lst{xs:List D}{n k m:Nat}(h:∀x∈xs,Sh x n k)(hl:xs.length<=m):Sh (.list xs) (m *(n+2)+3) (k+1) where
 can:=by simpa[PyData.canLay0]using zcc h
 sho:=by simpa[PyData.showable]using zcd h
 dep:=by simp only[PyData.depth];have:=zce h;omega
 len:=by
  simp only[PyData.shown];have h1:=listText_len_le (PyData.shownAll xs);have h2:=zcf h;rw[qf]at h1;have h3:xs.length *(n+2)<=m *(n+2):=Nat.mul_le_mul_right _ hl;rw[Nat.mul_add]at h3;omega
theorem Sh.tup{xs:List D}{n k m:Nat}(h:∀x∈xs,Sh x n k)(hl:xs.length<=m):Sh (.tuple xs) (m *(n+2)+3) (k+1) where
 can:=by simpa[PyData.canLay0]using zcc h
 sho:=by simpa[PyData.showable]using zcd h
 dep:=by simp only[PyData.depth];have:=zce h;omega
 len:=by
  simp only[PyData.shown];have h1:=tupleText_len_le (PyData.shownAll xs);have h2:=zcf h;rw[qf]at h1;have h3:xs.length *(n+2)<=m *(n+2):=Nat.mul_le_mul_right _ hl;rw[Nat.mul_add]at h3;omega
theorem Sh.lay{d:D}{n k:Nat}(h:Sh d n k)(hk:k<=64):Lay d:=by
 unfold Lay SeqAt.shaped;rw[Bool.and_eq_true];exact⟨h.can,decide_eq_true (Nat.le_trans h.dep hk)⟩
theorem Sh.all{d:D}{n k:Nat}(h:Sh d n k)(hk:k<=64)(hn:n<=16777216):Lay d/\d.showable=true/\d.shown.length<=sizeLine:=⟨h.lay hk,h.sho,Nat.le_trans h.len (by rw[sizeLine_eq];exact hn)⟩
theorem zo0(ns:List Int):Lay (.list (ns.map PyData.int)):=by
 have h:∀ns:List Int,PyData.canLayAll0 (ns.map PyData.int)=true/\PyData.depthAll (ns.map PyData.int)=0:=λns=>by
  induction ns with
  |nil=>exact⟨rfl,rfl⟩
  |cons n ns ih=>simp[PyData.canLayAll0,PyData.depthAll,PyData.canLay0,PyData.depth,ih.1,ih.2]
 unfold Lay SeqAt.shaped;simp[PyData.canLay0,PyData.depth,(h ns).1,(h ns).2]
theorem qb{m:Int}{Q:Ret->Prop}(h1:0<m)(h2:m<10000000000000000000000000000000000000000000000000000000000000)(q:∀v:Int,0<=v->v<m->Q (.val (.int v))):vm [.pen,.val (.int m)] Q:=⟨m,rfl,h1,h2,q⟩
theorem zuj{α:Type}{p:α->Prop}:∀y∈([]:List α),p y:=λy hy=>by cases hy
end L2
set_option maxHeartbeats 4000000
namespace L2
open PySem PySem.Spec PyProof.Rows
theorem atI_end{α:Type}(xs:List α)(x:α):atI (xs ++ [x]) (-1)=some x:=zhh xs x
theorem zct(xs:List D){n:Int}(h:0<=n):jb xs (some n) none=xs.drop n.toNat:=by
 obtain⟨k,rfl⟩:∃k:Nat,n=k:=⟨n.toNat,by omega⟩
 unfold jb;rw[HT.sIx_none,HT.sIx_nat,Int.toNat_natCast]
 by_cases c:k<=xs.length
 ·rw[Nat.min_eq_left c,List.take_of_length_le (by rw[List.length_drop];omega)]
 ·rw[Nat.min_eq_right (by omega),List.drop_eq_nil_of_le (by omega:xs.length<=k),List.drop_eq_nil_of_le (Nat.le_refl _),List.take_nil]
theorem jq(lo:Int)(n:Nat):(y3 lo n).length=n:=by simp[y3]
theorem zmr(ns:List Int):Lay (.tuple (ns.map PyData.int)):=by
 have:=zo0 ns;unfold Lay SeqAt.shaped at this ⊢;simpa[PyData.canLay0,PyData.depth]using this
theorem Lay.list{xs:List D}(h:∀x∈xs,Lay x/\x.depth<=63):Lay (.list xs):=by
 unfold Lay SeqAt.shaped;rw[Bool.and_eq_true];have h1:PyData.canLayAll0 xs=true:=by
  induction xs with
  |nil=>rfl
  |cons x xs ih=>
   simp only[PyData.canLayAll0,Bool.and_eq_true];exact⟨(h x List.mem_cons_self).1.can,ih λy hy=>h y (List.mem_cons_of_mem _ hy)⟩
 have h2:PyData.depthAll xs<=63:=by
  clear h1
  induction xs with
  |nil=>simp[PyData.depthAll]
  |cons x xs ih=>
   simp only[PyData.depthAll];have:=(h x List.mem_cons_self).2;have:=ih λy hy=>h y (List.mem_cons_of_mem _ hy);omega
 refine⟨by simpa[PyData.canLay0]using h1,decide_eq_true ?_⟩;simp only[PyData.depth];omega
theorem zhv{g:DTG}{tb:DTS}{Dn:jf}{ds:List D}{σ:DSt}(S:DSt->Prop)(h0:S σ)(hs:∀d∈ds,∀σ (N:DSt->Prop),S σ->(∀σ',S σ'->N σ')->g d σ λσ2=>tb { Dn with nx:=N,ct:=N,bk:=Dn.nx } σ2)(hd:∀σ,S σ->Dn.nx σ):ze9 g tb Dn ds σ:=by
 refine wj (λds' σ=>(∀d∈ds',d∈ds)/\S σ) ?_ (λσ h=>hd σ h.2) ⟨λ_ h=>h,h0⟩;rintro d ds' σ N ⟨h1,h2⟩ k;exact hs d (h1 d List.mem_cons_self) σ N h2 λσ' h'=>k σ' ⟨λx hx=>h1 x (List.mem_cons_of_mem _ hx),h'⟩
theorem zq5{n i:Nat}(h:i<n):ixN n (i:Int)=some i:=by
 unfold ixN;rw[if_pos (by omega)];simp[h]
def zjq:D->(D->Prop)->Prop
 |.bool b,Q=>Q (.str (if b=true then "True" else "False"))
 |d,Q=>Lay d/\d.showable=true/\d.shown.length<=sizeLine/\Q (.str d.shown)
def zjr(t:DTF):DTE:=λσ Q=>t σ λds=>match ds with
 |[d]=>zjq d Q
 |_=>False
section
variable {X:Cx}{e:Expr}{p pos:Pos}
theorem zhw{k:Nat}{t:DTF}(hr:Room k X.A)(hg:Gl X "repr")(hm:X.mg "repr" = none)(hv:bootBuiltins "repr" = some (.builtin "repr"))(ha:DAn X [e] t)(he:starEach [e] X.env=(false,eval e X.env)::starEach [] X.env:=by rfl):DE X (.Call (.Name "repr" p) [e] [] pos) (zjr t):=by
 have hc:qu X (.builtin "repr") (λvs H Q=>∃d v,vs = [v]/\RepN X.K H d v/\zjq d λr=>∃x,r=.str x/\∀H',H'=H->Q (.str x) H'):=λpins s σ H xs us Q I rv ⟨d,v,e,r,q⟩=>by
  subst e;obtain⟨u,rfl,r1⟩:=rv.one;have gen:Lay d->d.showable=true->d.shown.length<=sizeLine->Q (.str d.shown) H->(∃a,u=.ref a)->wpAny (model X.prog X.w) X.A (call (.builtin "repr") [u]) (EP X pins σ Q) X.xe s:=λh1 h2 h3 h4 ⟨a,ea⟩=>by
   subst ea;obtain⟨as,rd⟩:=r.reads I r1;have hu:=hr.un;have hd:=h1.deep;refine repr_of_reads' rd h2 (PyData.noDict_hsm ?_) hr.gd (by omega) (λ_ _ e=>e) (λh' u tk hk=>⟨.str d.shown,H,I.kept hk,⟨_,rfl⟩,h4⟩) h3;exact PyData.hasDict_of_canLay _ h1.can
  cases r with
  |bl=>
   cases r1;obtain⟨x,e,q⟩:=q
   cases e;exact PySem.P.repr_of_bool ⟨.str _,H,I.tok _,⟨_,rfl⟩,q H rfl⟩
  |non=>
   cases r1;obtain⟨_,_,_,x,e,q⟩:=q
   cases e;exact PySem.P.repr_of_none ⟨.str _,H,I.tok _,⟨_,rfl⟩,q H rfl⟩
  |int=>
   obtain⟨t,rfl⟩:=r1;obtain⟨_,h2,_,x,e,q⟩:=q
   cases e;exact PySem.P.repr_of_int (of_decide_eq_true (by simpa[PyData.showable]using h2)) ⟨.str _,H,I.tok _,⟨_,rfl⟩,q H rfl⟩
  |str=>
   obtain⟨t,rfl⟩:=r1;obtain⟨_,_,h3,x,e,q⟩:=q
   cases e;exact PySem.P.repr_of_str ⟨.str _,H,I.tok _,⟨_,rfl⟩,q H rfl⟩ h3
  |tup h r=>
   obtain⟨h1,h2,h3,x,e,q⟩:=q
   cases e;exact gen h1 h2 h3 (q H rfl) ⟨_,by cases r1;rfl⟩
  |lst h r=>
   obtain⟨h1,h2,h3,x,e,q⟩:=q
   cases e;exact gen h1 h2 h3 (q H rfl) ⟨_,by cases r1;rfl⟩
 refine DE.of (j5 hc hg hm hv ha.pa (by decide) (by decide) he rfl) λσ H H₀ σD QD ok q=>⟨H₀,σD,_,ok,q,λvs H1 ds s1 r1 q1=>?_⟩
 match ds,r1,q1 with
 |[d],r1,q1=>
  cases r1 with
  |cons r t=>
   cases t;refine⟨d,_,rfl,r,?_⟩
   cases d with
   |bool b=>exact⟨_,rfl,λH' e=>⟨_,by subst e;exact s1,.str,q1⟩⟩
   |_=>exact⟨q1.1,q1.2.1,q1.2.2.1,_,rfl,λH' e=>⟨_,by subst e;exact s1,.str,q1.2.2.2⟩⟩
end
end L2
namespace SQ
open PySem PyProof.Rows
set_option autoImplicit false
section
variable (prog:Program)(w:World)(A:Around)(s:Shared)(κ:KeyKind)(kd:SortKind)
def km:Prop:=∀(E:Value->Shared->Prop) (x y:Value) (a b:κ.α) (Q:Bool->Shared->Prop),κ.keyOf x=some a->κ.keyOf y=some b->Q (κ.blt a b) s->wpAny (model prog w) A (keyLt' kd x y) Q E s
end
structure SG(kd:SortKind)(a₀:Array Keyed)(st:SortSt):Prop where
 perm:(arrOf st).Perm a₀
 kind:kindOf st=kd
 fail:failedOf st=none
theorem SG.sz{kd:SortKind}{a₀:Array Keyed}{st:SortSt}(g:SG kd a₀ st):(arrOf st).size=a₀.size:=g.perm.size_eq
theorem SG.arr{kd:SortKind}{a₀:Array Keyed}{st:SortSt}(g:SG kd a₀ st){xs:Array Keyed}(p:xs.Perm (arrOf st)):SG kd a₀ (setArr st xs):=⟨p.trans g.perm,g.kind,g.fail⟩
structure Mv(lo hi:Nat)(st st':SortSt):Prop where
 out:∀k,(k<lo\/hi<=k)->(arrOf st')[k]?=(arrOf st)[k]?
 pend:pendingOf st'=pendingOf st
theorem Mv.refl(lo hi:Nat)(st:SortSt):Mv lo hi st st:=⟨λ_ _=>rfl,rfl⟩
theorem Mv.trans{lo hi:Nat}{a b c:SortSt}(h1:Mv lo hi a b)(h2:Mv lo hi b c):Mv lo hi a c:=⟨λk hk=>(h2.out k hk).trans (h1.out k hk),h2.pend.trans h1.pend⟩
abbrev Up(κ:KeyKind)(xs:Array Keyed)(lo n:Nat):Prop:=∀i j,lo<=i->i<=j->j<lo+n->κ.kle (KK κ xs i) (KK κ xs j)
abbrev Dn(κ:KeyKind)(xs:Array Keyed)(lo n:Nat):Prop:=∀i j,lo<=i->i<=j->j<lo+n->κ.kle (KK κ xs j) (KK κ xs i)
theorem zap{st:SortSt}{i j lo hi:Nat}(hj:j<=(arrOf st).size)(h1:lo<=i)(h2:j<=hi):Mv lo hi st (setArr st (mirror (arrOf st) i j ((j-i) / 2))) :=
 ⟨λk hk=>by
  show(mirror (arrOf st) i j ((j-i) / 2))[k]?=_;rw[getElem?_mirror_all hj,if_neg (by omega)],rfl⟩
section
variable {prog:Program}{w:World}{A:Around}{E:Value->Shared->Prop}{s:Shared}{κ:KeyKind}{kd:SortKind}{a₀:Array Keyed}
theorem SG.key{st:SortSt}(g:SG kd a₀ st)(h0:KeysOf κ a₀){i:Nat}(hi:i<a₀.size):∃x p,(arrOf st)[i]?=some (x,p)/\κ.keyOf x=some (KK κ (arrOf st) i):=by
 have l:i<(arrOf st).size:=by rw[g.sz];exact hi
 obtain⟨a,ha⟩:=h0 ((arrOf st)[i]) ((Array.perm_iff_toList_perm.mp g.perm).mem_iff.mp (by simp));have e:(arrOf st)[i]?=some (arrOf st)[i]:=getElem?_pos _ i l;refine⟨(arrOf st)[i].1,(arrOf st)[i].2,e,?_⟩;rw[ha];unfold KK;rw[e];simp[ha]
theorem zo1{st:SortSt}{x y:Keyed}{a b:κ.α}{Q:Option Bool->SortSt->Prop}(L:km prog w A s κ kd)(hk:kindOf st=kd)(ha:κ.keyOf x.1=some a)(hb:κ.keyOf y.1=some b)(q:Q (some (κ.blt a b)) st):
  wpS (model prog w) A E s (lt' x y) Q st:=by
 rw[lt'_eq];refine wpS_bind (wpS_get ?_);rw[hk];exact wpS_bind (wpS_lift (wpAny_attempt (L _ x.1 y.1 a b _ ha hb ⟨rfl,wpS_pure q⟩)))
theorem xu{st:SortSt}{xs:Array Keyed}{i:Nat}{p:Keyed}{Q:Keyed->SortSt->Prop}(e:xs[i]?=some p)(q:Q p st):wpS (model prog w) A E s (elem' xs i) Q st:=by
 rw[elem'_eq,e];exact wpS_pure q
theorem zd3{st:SortSt}{i j:Nat}{Q:Option Bool->SortSt->Prop}(L:km prog w A s κ kd)(g:SG kd a₀ st)(h0:KeysOf κ a₀)(hi:i<a₀.size)(hj:j<a₀.size)
  (q:Q (some (κ.blt (KK κ (arrOf st) i) (KK κ (arrOf st) j))) st):wpS (model prog w) A E s (ltAt' i j) Q st:=by
 obtain⟨x,p,e1,k1⟩:=g.key h0 hi;obtain⟨y,r,e2,k2⟩:=g.key h0 hj;rw[ltAt'_eq];refine wpS_bind (wpS_get ?_);exact wpS_bind (xu e1 (wpS_bind (xu e2 (zo1 L g.kind k1 k2 q))))
theorem zk3{st:SortSt}{i j:Nat}{Q:Unit->SortSt->Prop}(q:Q () (setArr st (mirror (arrOf st) i j ((j-i) / 2)))):wpS (model prog w) A E s (reverseSlice' i j) Q st:=by
 rw[reverseSlice'_eq];exact wpS_modify q
def zd4(lo a m:Nat):StateT SortSt Sem (Option (Option Nat)×Nat) :=
 forIn [a:m] ((none,a):Option (Option Nat)×Nat) λ_ c=>do
  let o <-ltAt' (lo+c.snd) (lo+c.snd-1)
  match o with
  |some less=>if less=true then pure (ForInStep.done (none,c.snd)) else pure (ForInStep.yield (none,c.snd+1))
  |_=>pure (ForInStep.done (some none,c.snd))
def zd5(lo n m:Nat):StateT SortSt Sem (Option Nat):=do
 reverseSlice' lo (lo+n)
 let c <-zd4 lo n m
 match c.fst with
 |some r=>pure r
 |none=>pure (some c.snd)
def zgs(lo n m:Nat):StateT SortSt Sem (Option (Option Nat)×Nat×Nat) :=
 forIn [n:m] ((none,n,0):Option (Option Nat)×Nat×Nat) λ_ c=>do
  let o <-ltAt' (lo+c.snd.fst) (lo+c.snd.fst-1)
  match o with
  |some less=>
   if less=true then
    if c.snd.snd > 0 then do
     reverseSlice' (lo+c.snd.fst-(c.snd.snd+1)) (lo+c.snd.fst)
     pure (ForInStep.yield (none,c.snd.fst+1,0))
    else pure (ForInStep.yield (none,c.snd.fst+1,0))
   else do
    let o <-ltAt' (lo+c.snd.fst-1) (lo+c.snd.fst)
    match o with
    |some more=>
     if more=true then pure (ForInStep.done (none,c.snd.fst,c.snd.snd))
     else pure (ForInStep.yield (none,c.snd.fst+1,c.snd.snd+1))
    |_=>pure (ForInStep.done (some none,c.snd.fst,c.snd.snd))
  |_=>pure (ForInStep.done (some none,c.snd.fst,c.snd.snd))
def zhx(lo n m:Nat):StateT SortSt Sem (Option Nat):=do
 liftM (rule "list.sort.descending-run")
 let c <-zgs lo (n+1) m
 match c.fst with
 |some r=>pure r
 |none=>
  if c.snd.snd > 0 then do
   reverseSlice' (lo+c.snd.fst-(c.snd.snd+1)) (lo+c.snd.fst)
   zd5 lo c.snd.fst m
  else zd5 lo c.snd.fst m
theorem zc3(lo m:Nat):countRun' lo m=(do
  let c <-zd4 lo 1 m
  match c.fst with
  |some r=>pure r
  |none=>
   if (c.snd == m)=true then pure (some c.snd)
   else if c.snd > 1 then do
    let o <-ltAt' lo (lo+c.snd-1)
    match o with
    |some rose=>if rose=true then pure (some c.snd) else do
      reverseSlice' lo (lo+c.snd)
      zhx lo c.snd m
    |_=>pure none
   else zhx lo c.snd m):=by
 rw[countRun'_eq];unfold zhx zd5 zgs zd4;dsimp only;congr 1
 funext c
 obtain⟨r,n⟩:=c
 cases r with
 |some r=>rfl
 |none=>
  dsimp only
  split
  ·rfl
  ·split
   ·congr 1
    funext x
    cases x with
    |none=>rfl
    |some rose=>
     dsimp only
     split
     ·rfl
     ·congr 1
      funext _
      congr 1;funext _;congr 1;congr 1;funext c2;obtain⟨r2,n2,q2⟩:=c2;cases r2 with
      |some r2=>rfl
      |none=>
       dsimp only
       split
       ·congr 1;funext _;congr 1;funext _;congr 1;funext c3;obtain⟨r3,n3⟩:=c3;cases r3 <;> rfl
       ·congr 1;funext _;congr 1;funext c3;obtain⟨r3,n3⟩:=c3;cases r3 <;> rfl
   ·congr 1;funext _;congr 1;congr 1;funext c2;obtain⟨r2,n2,q2⟩:=c2;cases r2 with
    |some r2=>rfl
    |none=>
     dsimp only
     split
     ·congr 1;funext _;congr 1;funext _;congr 1;funext c3;obtain⟨r3,n3⟩:=c3;cases r3 <;> rfl
     ·congr 1;funext _;congr 1;funext c3;obtain⟨r3,n3⟩:=c3;cases r3 <;> rfl
end
end SQ
namespace SQ
open PySem PyProof.Rows
set_option autoImplicit false
section
variable {prog:Program}{w:World}{A:Around}{E:Value->Shared->Prop}{s:Shared}{κ:KeyKind}{kd:SortKind}{a₀:Array Keyed}
theorem Up.next{xs:Array Keyed}{lo n:Nat}(h:Up κ xs lo n)(h1:1<=n)(c:κ.blt (KK κ xs (lo+n)) (KK κ xs (lo+n-1))=false):Up κ xs lo (n+1):=λi j a b d=>by
 by_cases e:j<lo+n
 ·exact h i j a b e
 ·have ej:j=lo+n:=by omega
  subst ej
  by_cases e2:i=lo+n
  ·subst e2;exact KeyOrd.kle_refl _
  ·exact KeyOrd.kle_trans (h i (lo+n-1) a (by omega) (by omega)) c
theorem zwd{st:SortSt}{lo a m:Nat}{Q:Option (Option Nat)×Nat->SortSt->Prop}(L:km prog w A s κ kd)(h0:KeysOf κ a₀)(g:SG kd a₀ st)(hm:lo+m<=a₀.size)(ha:1<=a)(hu:Up κ (arrOf st) lo a)(ham:a<=m)
  (q:∀n,a<=n->n<=m->Up κ (arrOf st) lo n->(n=m\/κ.klt (KK κ (arrOf st) (lo+n)) (KK κ (arrOf st) (lo+n-1)))->Q (none,n) st):wpS (model prog w) A E s (zd4 lo a m) Q st:=by
 unfold zd4;refine wpS_forRange (I:=λx c st'=>st'=st/\c=(none,x)/\Up κ (arrOf st) lo x) (λx c st' hx1 hx2 h=>?_) (λc st' h=>?_) ⟨rfl,rfl,hu⟩
 ·obtain⟨rfl,rfl,hx⟩:=h;dsimp only;refine wpS_bind (zd3 L g h0 (by omega) (by omega) ?_)
  cases cb:κ.blt (KK κ (arrOf st') (lo+x)) (KK κ (arrOf st') (lo+x-1)) with
  |true=>exact wpS_pure (q x hx1 (by omega) hx (.inr cb))
  |false=>exact wpS_pure ⟨rfl,rfl,hx.next (by omega) cb⟩
 ·obtain⟨rfl,rfl,hx⟩:=h;rw[show max a m=m by omega]at hx ⊢;exact q m ham (Nat.le_refl _) hx (.inl rfl)
theorem zsd{st st0:SortSt}{lo n m:Nat}{Q:Option Nat->SortSt->Prop}(L:km prog w A s κ kd)(h0:KeysOf κ a₀)(g:SG kd a₀ st)(hm:lo+m<=a₀.size)(h1:1<=n)(hnm:n<=m)(hd:Dn κ (arrOf st) lo n)(mv:Mv lo (lo+m) st0 st)
  (q:∀k st',SG kd a₀ st'->Mv lo (lo+m) st0 st'->1<=k->k<=m->Up κ (arrOf st') lo k->Q (some k) st'):wpS (model prog w) A E s (zd5 lo n m) Q st:=by
 unfold zd5;have sz:lo+n<=(arrOf st).size:=by rw[g.sz];omega
 refine wpS_bind (zk3 ?_);have g':=g.arr (mirror_perm (arrOf st) lo (lo+n) ((lo+n-lo) / 2));refine wpS_bind (zwd L h0 g' hm h1 (λi j a b c=>?_) hnm λk k1 k2 hk _=>wpS_pure (q k _ g' (mv.trans (zap sz (Nat.le_refl _) (by omega))) (by omega) k2 hk));show κ.kle (KK κ (mirror (arrOf st) lo (lo+n) ((lo+n-lo) / 2)) i) (KK κ (mirror (arrOf st) lo (lo+n) ((lo+n-lo) / 2)) j);rw[KK_mirror sz,KK_mirror sz,if_pos (by omega),if_pos (by omega)];exact hd _ _ (by omega) (by omega) (by omega)
theorem Dn.next{xs:Array Keyed}{lo n:Nat}(h:Dn κ xs lo n)(h1:1<=n)(c:κ.kle (KK κ xs (lo+n)) (KK κ xs (lo+n-1))):Dn κ xs lo (n+1):=λi j a b d=>by
 by_cases e:j<lo+n
 ·exact h i j a b e
 ·have ej:j=lo+n:=by omega
  subst ej
  by_cases e2:i=lo+n
  ·subst e2;exact KeyOrd.kle_refl _
  ·exact KeyOrd.kle_trans c (h i (lo+n-1) a (by omega) (by omega))
theorem zgt{xs:Array Keyed}{i j:Nat}(hj:j<=xs.size)(he:∀k,i<=k->k<j->KK κ xs k=KK κ xs (j-1))(k:Nat):KK κ (mirror xs i j ((j-i) / 2)) k=KK κ xs k:=KK_mirror_equal hj he k
theorem zxd{st:SortSt}{lo n m:Nat}{Q:Option (Option Nat)×Nat×Nat->SortSt->Prop}(L:km prog w A s κ kd)(h0:KeysOf κ a₀)(g:SG kd a₀ st)(hm:lo+m<=a₀.size)(h1:1<=n)(hnm:n<=m)(hd:Dn κ (arrOf st) lo n)
  (q:∀k e st',SG kd a₀ st'->Mv lo (lo+m) st st'->n<=k->k<=m->Dn κ (arrOf st') lo k->e+1<=k->(∀i,lo+k-(e+1)<=i->i<lo+k->KK κ (arrOf st') i=KK κ (arrOf st') (lo+k-1))->Q (none,k,e) st'):wpS (model prog w) A E s (zgs lo n m) Q st:=by
 unfold zgs;refine wpS_forRange (I:=λx c st'=>∃e,c=(none,x,e)/\SG kd a₀ st'/\Mv lo (lo+m) st st'/\Dn κ (arrOf st') lo x/\e+1<=x/\(∀i,lo+x-(e+1)<=i->i<lo+x->KK κ (arrOf st') i=KK κ (arrOf st') (lo+x-1))) (λx c st' hx1 hx2 h=>?_) (λc st' h=>?_) ⟨0,rfl,g,Mv.refl _ _ _,hd,by omega,λi a b=>by rw[show i=lo+n-1 by omega]⟩
 ·obtain⟨e,rfl,g',mv,hx,he,heq⟩:=h;dsimp only;refine wpS_bind (zd3 L g' h0 (by omega) (by omega) ?_)
  cases cb:κ.blt (KK κ (arrOf st') (lo+x)) (KK κ (arrOf st') (lo+x-1)) with
  |true=>
   dsimp only;rw[if_pos rfl]
   by_cases ce:e > 0
   ·rw[if_pos ce];refine wpS_bind (zk3 (wpS_pure ?_));have sz:lo+x<=(arrOf st').size:=by rw[g'.sz];omega
    have kf:=zgt (κ:=κ) (xs:=arrOf st') (i:=lo+x-(e+1)) (j:=lo+x) sz heq;refine⟨0,rfl,g'.arr (mirror_perm _ _ _ _),mv.trans (zap sz (by omega) (by omega)),?_,by omega,λi a b=>by rw[show i=lo+(x+1)-1 by omega]⟩;refine Dn.next (λi j a b d=>?_) (by omega) ?_
    ·show κ.kle (KK κ (mirror _ _ _ _) j) (KK κ (mirror _ _ _ _) i);rw[kf,kf];exact hx i j a b d
    ·show κ.kle (KK κ (mirror _ _ _ _) _) (KK κ (mirror _ _ _ _) _);rw[kf,kf];exact KeyOrd.kle_of_klt cb
   ·rw[if_neg ce];exact wpS_pure ⟨0,rfl,g',mv,hx.next (by omega) (KeyOrd.kle_of_klt cb),by omega,λi a b=>by rw[show i=lo+(x+1)-1 by omega]⟩
  |false=>
   dsimp only;rw[if_neg (by decide)];refine wpS_bind (zd3 L g' h0 (by omega) (by omega) ?_)
   cases cc:κ.blt (KK κ (arrOf st') (lo+x-1)) (KK κ (arrOf st') (lo+x)) with
   |true=>exact wpS_pure (q x e st' g' mv hx1 (by omega) hx he heq)
   |false=>
    have same:KK κ (arrOf st') (lo+x)=KK κ (arrOf st') (lo+x-1):=KeyOrd.kle_antisymm cc cb;refine wpS_pure ⟨e+1,rfl,g',mv,hx.next (by omega) cc,by omega,λi a b=>?_⟩;rw[show lo+(x+1)-1=lo+x by omega]
    by_cases ei:i=lo+x
    ·rw[ei]
    ·rw[heq i (by omega) (by omega),same]
 ·obtain⟨e,rfl,g',mv,hx,he,heq⟩:=h;rw[show max n m=m by omega]at *;exact q m e st' g' mv hnm (Nat.le_refl _) hx he heq
theorem zk4{st st0:SortSt}{lo n m:Nat}{Q:Option Nat->SortSt->Prop}(L:km prog w A s κ kd)(h0:KeysOf κ a₀)(g:SG kd a₀ st)(hm:lo+m<=a₀.size)(h1:1<=n)(hnm:n+1<=m)(hd:Dn κ (arrOf st) lo (n+1))(mv:Mv lo (lo+m) st0 st)
  (q:∀k st',SG kd a₀ st'->Mv lo (lo+m) st0 st'->1<=k->k<=m->Up κ (arrOf st') lo k->Q (some k) st'):wpS (model prog w) A E s (zhx lo n m) Q st:=by
 unfold zhx;refine wpS_bind (wpS_lift (wpAny_rule ⟨rfl,?_⟩));refine wpS_bind (zxd L h0 g hm (by omega) hnm hd λk e st' g' mv' k1 k2 hk he heq=>?_);dsimp only
 by_cases ce:e > 0
 ·rw[if_pos ce];have sz:lo+k<=(arrOf st').size:=by rw[g'.sz];omega
  have kf:=zgt (κ:=κ) (xs:=arrOf st') (i:=lo+k-(e+1)) (j:=lo+k) sz heq;refine wpS_bind (zk3 (zsd L h0 (g'.arr (mirror_perm _ _ _ _)) hm (by omega) k2 (λi j a b d=>?_) ((mv.trans mv').trans (zap sz (by omega) (by omega))) q));show κ.kle (KK κ (mirror _ _ _ _) j) (KK κ (mirror _ _ _ _) i);rw[kf,kf];exact hk i j a b d
 ·rw[if_neg ce];exact zsd L h0 g' hm (by omega) k2 hk (mv.trans mv') q
theorem zd6{st:SortSt}{lo m:Nat}{Q:Option Nat->SortSt->Prop}(L:km prog w A s κ kd)(h0:KeysOf κ a₀)(g:SG kd a₀ st)(hm:lo+m<=a₀.size)(h1:1<=m)
  (q:∀k st',SG kd a₀ st'->Mv lo (lo+m) st st'->1<=k->k<=m->Up κ (arrOf st') lo k->Q (some k) st'):wpS (model prog w) A E s (countRun' lo m) Q st:=by
 rw[zc3];refine wpS_bind (zwd L h0 g hm (Nat.le_refl _) (λi j a b c=>by rw[show i=j by omega];exact KeyOrd.kle_refl _) h1 λn n1 n2 hn hz=>?_);dsimp only
 by_cases e:n=m
 ·rw[if_pos (by simpa using e)];exact wpS_pure (q n st g (Mv.refl _ _ _) n1 n2 hn)
 ·rw[if_neg (by simpa using e)];have down:=hz.resolve_left e
  by_cases e1:n > 1
  ·rw[if_pos e1];refine wpS_bind (zd3 L g h0 (by omega) (by omega) ?_)
   cases cb:κ.blt (KK κ (arrOf st) lo) (KK κ (arrOf st) (lo+n-1)) with
   |true=>exact wpS_pure (q n st g (Mv.refl _ _ _) n1 n2 hn)
   |false=>
    dsimp only;rw[if_neg (by decide)];have all:∀k,lo<=k->k<lo+n->KK κ (arrOf st) k=KK κ (arrOf st) (lo+n-1):=λk a b=>
     KeyOrd.kle_antisymm (hn k (lo+n-1) a (by omega) (by omega)) (KeyOrd.kle_trans cb (hn lo k (Nat.le_refl _) a b))
    have sz:lo+n<=(arrOf st).size:=by rw[g.sz];omega
    have kf:=zgt (κ:=κ) (xs:=arrOf st) (i:=lo) (j:=lo+n) sz all;refine wpS_bind (zk3 (zk4 L h0 (g.arr (mirror_perm _ _ _ _)) hm n1 (by omega) (Dn.next (λi j a b d=>?_) n1 ?_) (zap sz (Nat.le_refl _) (by omega)) q))
    ·show κ.kle (KK κ (mirror _ _ _ _) j) (KK κ (mirror _ _ _ _) i);rw[kf,kf,all j (by omega) d,all i a (by omega)];exact KeyOrd.kle_refl _
    ·show κ.kle (KK κ (mirror _ _ _ _) _) (KK κ (mirror _ _ _ _) _);rw[kf,kf];exact KeyOrd.kle_of_klt down
  ·rw[if_neg e1];refine zk4 L h0 g hm n1 (by omega) (Dn.next (λi j a b d=>by rw[show i=j by omega];exact KeyOrd.kle_refl _) n1 (KeyOrd.kle_of_klt down)) (Mv.refl _ _ _) q
theorem zhy{st:SortSt}{lo n ok:Nat}{Q:Bool->SortSt->Prop}(L:km prog w A s κ kd)(h0:KeysOf κ a₀)(g:SG kd a₀ st)(hn:lo+n<=a₀.size)(hok:ok<=n)(hu:Up κ (arrOf st) lo ok)
  (q:∀st',SG kd a₀ st'->Mv lo (lo+n) st st'->Up κ (arrOf st') lo n->Q true st'):wpS (model prog w) A E s (binarySort' lo n ok) Q st:=by
 rw[binarySort'_eq];refine wpS_bind (wpS_mono (wpS_forRange (I:=λk c st'=>c=(none,())/\SG kd a₀ st'/\Mv lo (lo+n) st st'/\Up κ (arrOf st') lo (min k n))
  (Q:=λc st'=>c=(none,())/\SG kd a₀ st'/\Mv lo (lo+n) st st'/\Up κ (arrOf st') lo n) (λk c st' hk1 hk2 h=>?_) (λc st' h=>?_) ⟨rfl,g,Mv.refl _ _ _,λi j a b d=>?_⟩) (λc st' h=>?_))
 ·obtain⟨rfl,g',mv,hs⟩:=h;rw[show min k n=k by omega]at hs
  refine wpS_bind (wpS_mono (wpS_forRange (I:=λx c z=>z=st'/\∃l r,c=(none,l,r)/\l<=r/\r<=k/\r-l<=k-x/\(∀i,lo<=i->i<lo+l->κ.kle (KK κ (arrOf st') i) (KK κ (arrOf st') (lo+k)))/\(∀i,lo+r<=i->i<lo+k->κ.klt (KK κ (arrOf st') (lo+k)) (KK κ (arrOf st') i)))
   (Q:=λc z=>z=st'/\∃l r,c=(none,l,r)/\l<=k/\(∀i,lo<=i->i<lo+l->κ.kle (KK κ (arrOf st') i) (KK κ (arrOf st') (lo+k)))/\(∀i,lo+l<=i->i<lo+k->κ.klt (KK κ (arrOf st') (lo+k)) (KK κ (arrOf st') i)))
   (λx c z hx1 hx2 h=>?_) (λc z h=>?_) ⟨rfl,0,k,rfl,by omega,by omega,by omega,λi a b=>by omega,λi a b=>by omega⟩) (λc z h=>?_))
  ·obtain⟨rfl,l,r,rfl,p1,p2,p3,p4,p5⟩:=h;dsimp only
   by_cases e:l ≥ r
   ·rw[if_pos e];have:l=r:=by omega
    subst this;exact wpS_pure ⟨rfl,l,l,rfl,p2,p4,p5⟩
   ·rw[if_neg e];refine wpS_bind (zd3 L g' h0 (by omega) (by omega) ?_)
    cases cb:κ.blt (KK κ (arrOf z) (lo+k)) (KK κ (arrOf z) (lo+(l+r) / 2)) with
    |true=>exact wpS_pure ⟨rfl,l,(l+r) / 2,rfl,by omega,by omega,by omega,p4,λi a b=>KeyOrd.klt_of_klt_of_kle cb (hs _ _ (by omega) a (by omega))⟩
    |false=>exact wpS_pure ⟨rfl,(l+r) / 2+1,r,rfl,by omega,by omega,by omega,λi a b=>KeyOrd.kle_trans (hs i (lo+(l+r) / 2) a (by omega) (by omega)) cb,p5⟩
  ·obtain⟨rfl,l,r,rfl,p1,p2,p3,p4,p5⟩:=h;have:l=r:=by omega
   subst this;exact⟨rfl,l,l,rfl,p2,p4,p5⟩
  ·obtain⟨rfl,l,r,rfl,p2,p4,p5⟩:=h;show wpS _ _ _ _ (do moveDown' (lo+k) (lo+l);pure (ForInStep.yield (none,()))) _ _;rw[moveDown'_eq];have sz:lo+k<(arrOf z).size:=by rw[g'.sz];omega
   refine wpS_bind (wpS_modify (wpS_pure ⟨rfl,g'.arr (bubble_perm _ _ _),mv.trans ⟨λi hi=>?_,rfl⟩,?_⟩))
   ·show(bubble (arrOf z) (lo+k) (lo+k-(lo+l)))[i]?=_;rw[getElem?_bubble sz _ (by omega),if_neg (by omega),if_neg (by omega)]
   ·rw[show min (k+1) n=k+1 by omega];intro i j a b d;show κ.kle (KK κ (bubble (arrOf z) (lo+k) (lo+k-(lo+l))) i) (KK κ (bubble (arrOf z) (lo+k) (lo+k-(lo+l))) j);rw[KK_bubble sz (by omega),KK_bubble sz (by omega),show lo+k-(lo+k-(lo+l))=lo+l by omega]
    repeat' split
    all_goals first
     |(exfalso;omega)
     |exact KeyOrd.kle_refl _
     |exact p4 _ (by omega) (by omega)
     |exact KeyOrd.kle_of_klt (p5 _ (by omega) (by omega))
     |exact hs _ _ (by omega) (by omega) (by omega)
 ·obtain⟨h1,h2,h3,h4⟩:=h;rw[show min (max (max ok 1) n) n=n by omega]at h4;exact⟨h1,h2,h3,h4⟩
 ·by_cases e:ok=0
  ·rw[show i=j by omega];exact KeyOrd.kle_refl _
  ·exact hu i j a b (by omega)
 ·obtain⟨rfl,h2,h3,h4⟩:=h;exact wpS_pure (q st' h2 h3 h4)
end
end SQ
namespace SQ
open PySem PyProof.Rows
set_option autoImplicit false
def zq6:Bool->Keyed->Array Keyed->Nat->Nat->Nat->StateT SortSt Sem (Option Nat):=sortPriv% PySem.Builtin.gallop
abbrev zuk(κ:KeyKind)(arr:Array Keyed)(base n:Nat):Prop:=∀i,i<n->∃p,arr[base+i]?=some p/\κ.keyOf p.1=some (KK κ arr (base+i))
def byd(κ:KeyKind)(left:Bool)(k:κ.α)(arr:Array Keyed)(base i:Nat):Bool:=if left=true then κ.blt (KK κ arr (base+i)) k else !κ.blt k (KK κ arr (base+i))
section
variable {prog:Program}{w:World}{A:Around}{E:Value->Shared->Prop}{s:Shared}{κ:KeyKind}{kd:SortKind}
theorem zhz{st:SortSt}{left:Bool}{key:Keyed}{k:κ.α}{arr:Array Keyed}{base n i:Nat}{Q:Option Bool->SortSt->Prop}(L:km prog w A s κ kd)(hk:kindOf st=kd)(hy:zuk κ arr base n)(kk:κ.keyOf key.1=some k)(hi:i<n)(q:Q (some (byd κ left k arr base i)) st):
  wpS (model prog w) A E s (do
   let x <-elem' arr (base+i)
   if left=true then lt' x key
   else do
    let r <-lt' key x
    pure (Option.map (λx=>!x) r)) Q st:=by
 obtain⟨p,e,kp⟩:=hy i hi;refine wpS_bind (xu e ?_);unfold byd at q
 cases left with
 |true=>exact zo1 L hk kp kk q
 |false=>exact wpS_bind (zo1 L hk kk kp (wpS_pure q))
theorem jh{st:SortSt}{left:Bool}{key:Keyed}{k:κ.α}{arr:Array Keyed}{base n hint:Nat}{Q:Option Nat->SortSt->Prop}(L:km prog w A s κ kd)(hk:kindOf st=kd)(hy:zuk κ arr base n)(kk:κ.keyOf key.1=some k)(hh:hint<n)
  (mono:∀i j,i<=j->j<n->byd κ left k arr base j=true->byd κ left k arr base i=true)
  (q:∀m,m<=n->(∀i,i<m->byd κ left k arr base i=true)->(∀i,m<=i->i<n->byd κ left k arr base i=false)->Q (some m) st):wpS (model prog w) A E s (zq6 left key arr base n hint) Q st:=by
 have cut:∀i j,i<=j->j<n->byd κ left k arr base i=false->byd κ left k arr base j=false:=λi j a b c=>by
  cases e:byd κ left k arr base j with
  |false=>rfl
  |true=>rw[mono i j a b e]at c;cases c
 refine wpS_bind ?_;refine zhz L hk hy kk hh ?_;dsimp only
 cases c0:byd κ left k arr base hint with
 |true=>
  rw[if_pos rfl];refine wpS_bind (wpS_mono (wpS_forRange (I:=λx c z=>st=z/\∃l o,c=(none,l,o)/\l<o/\x<o/\hint+l<n/\byd κ left k arr base (hint+l)=true)
   (Q:=λc z=>st=z/\∃l o,c=(none,l,o)/\l<o/\hint+l<n/\byd κ left k arr base (hint+l)=true/\(n-hint<=o\/byd κ left k arr base (hint+o)=false))
   (λx c z hx1 hx2 h=>?_) (λc z h=>?_) ⟨rfl,0,1,rfl,by omega,by omega,by omega,c0⟩) (λc z h=>?_))
  ·obtain⟨rfl,l,o,rfl,p1,p2,p3,p4⟩:=h;dsimp only
   by_cases e:o ≥ n-hint
   ·rw[if_pos e];exact wpS_pure ⟨rfl,l,o,rfl,p1,p3,p4,.inl e⟩
   ·rw[if_neg e];refine wpS_bind (zhz L hk hy kk (by omega) ?_)
    cases cb:byd κ left k arr base (hint+o) with
    |true=>exact wpS_pure ⟨rfl,o,2 * o+1,rfl,by omega,by omega,by omega,cb⟩
    |false=>exact wpS_pure ⟨rfl,l,o,rfl,p1,p3,p4,.inr cb⟩
  ·obtain⟨rfl,l,o,rfl,p1,p2,p3,p4⟩:=h;exact⟨rfl,l,o,rfl,p1,p3,p4,.inl (by omega)⟩
  ·obtain⟨rfl,l,o,rfl,p1,p3,p4,p5⟩:=h;have h1:hint+l+1<=hint+min o (n-hint):=by omega
   have h2:hint+min o (n-hint)<=n:=by omega
   have h3:∀i,i<hint+l+1->byd κ left k arr base i=true:=λi hi=>mono i _ (by omega) p3 p4;have h4:∀i,hint+min o (n-hint)<=i->i<n->byd κ left k arr base i=false:=λi a b=>by
    rcases p5 with p5|p5
    ·omega
    ·exact cut (hint+o) i (by omega) b p5
   dsimp only;refine wpS_bind (wpS_mono (wpS_forRange (I:=λx c z=>st=z/\∃l r,c=(none,l,r)/\l<=r/\r<=n/\r-l<=n-x/\(∀i,i<l->byd κ left k arr base i=true)/\(∀i,r<=i->i<n->byd κ left k arr base i=false))
    (Q:=λc z=>st=z/\∃l r,c=(none,l,r)/\r<=l/\l<=r/\r<=n/\(∀i,i<l->byd κ left k arr base i=true)/\(∀i,r<=i->i<n->byd κ left k arr base i=false))
    (λx c z hx1 hx2 h=>?_) (λc z h=>?_) ⟨rfl,_,_,rfl,h1,h2,by omega,h3,h4⟩) (λc z h=>?_))
   ·obtain⟨rfl,l,r,rfl,p1,p2,p3,p4,p5⟩:=h;dsimp only
    by_cases e:l ≥ r
    ·rw[if_pos e];exact wpS_pure ⟨rfl,l,r,rfl,e,p1,p2,p4,p5⟩
    ·rw[if_neg e];refine wpS_bind (zhz L hk hy kk (by omega) ?_)
     cases cb:byd κ left k arr base (l+(r-l) / 2) with
     |true=>exact wpS_pure ⟨rfl,_,_,rfl,by omega,by omega,by omega,λi hi=>mono i _ (by omega) (by omega) cb,p5⟩
     |false=>exact wpS_pure ⟨rfl,_,_,rfl,by omega,by omega,by omega,p4,λi a b=>cut _ i a b cb⟩
   ·obtain⟨rfl,l,r,rfl,p1,p2,p3,p4,p5⟩:=h;exact⟨rfl,l,r,rfl,by omega,p1,p2,p4,p5⟩
   ·obtain⟨rfl,l,r,rfl,p0,p1,p2,p4,p5⟩:=h;have:l=r:=by omega
    subst this;exact wpS_pure (q l p2 p4 p5)
 |false=>
  rw[if_neg (by decide)];refine wpS_bind (wpS_mono (wpS_forRange (I:=λx c z=>st=z/\∃l o,c=(none,l,o)/\l<o/\x<o/\l<=hint/\byd κ left k arr base (hint-l)=false)
   (Q:=λc z=>st=z/\∃l o,c=(none,l,o)/\l<o/\l<=hint/\byd κ left k arr base (hint-l)=false/\(hint+1<=o\/byd κ left k arr base (hint-o)=true))
   (λx c z hx1 hx2 h=>?_) (λc z h=>?_) ⟨rfl,0,1,rfl,by omega,by omega,by omega,c0⟩) (λc z h=>?_))
  ·obtain⟨rfl,l,o,rfl,p1,p2,p3,p4⟩:=h;dsimp only
   by_cases e:o ≥ hint+1
   ·rw[if_pos e];exact wpS_pure ⟨rfl,l,o,rfl,p1,p3,p4,.inl e⟩
   ·rw[if_neg e];refine wpS_bind (zhz L hk hy kk (by omega) ?_)
    cases cb:byd κ left k arr base (hint-o) with
    |true=>exact wpS_pure ⟨rfl,l,o,rfl,p1,p3,p4,.inr cb⟩
    |false=>exact wpS_pure ⟨rfl,o,2 * o+1,rfl,by omega,by omega,by omega,cb⟩
  ·obtain⟨rfl,l,o,rfl,p1,p2,p3,p4⟩:=h;exact⟨rfl,l,o,rfl,p1,p3,p4,.inl (by omega)⟩
  ·obtain⟨rfl,l,o,rfl,p1,p3,p4,p5⟩:=h;have h1:hint+1-min o (hint+1)<=hint-l:=by omega
   have h2:hint-l<=n:=by omega
   have h3:∀i,i<hint+1-min o (hint+1)->byd κ left k arr base i=true:=λi hi=>by
    rcases p5 with p5|p5
    ·omega
    ·exact mono i (hint-o) (by omega) (by omega) p5
   have h4:∀i,hint-l<=i->i<n->byd κ left k arr base i=false:=λi a b=>cut (hint-l) i a b p4;dsimp only;refine wpS_bind (wpS_mono (wpS_forRange (I:=λx c z=>st=z/\∃l r,c=(none,l,r)/\l<=r/\r<=n/\r-l<=n-x/\(∀i,i<l->byd κ left k arr base i=true)/\(∀i,r<=i->i<n->byd κ left k arr base i=false))
    (Q:=λc z=>st=z/\∃l r,c=(none,l,r)/\r<=l/\l<=r/\r<=n/\(∀i,i<l->byd κ left k arr base i=true)/\(∀i,r<=i->i<n->byd κ left k arr base i=false))
    (λx c z hx1 hx2 h=>?_) (λc z h=>?_) ⟨rfl,_,_,rfl,h1,h2,by omega,h3,h4⟩) (λc z h=>?_))
   ·obtain⟨rfl,l,r,rfl,p1,p2,p3,p4,p5⟩:=h;dsimp only
    by_cases e:l ≥ r
    ·rw[if_pos e];exact wpS_pure ⟨rfl,l,r,rfl,e,p1,p2,p4,p5⟩
    ·rw[if_neg e];refine wpS_bind (zhz L hk hy kk (by omega) ?_)
     cases cb:byd κ left k arr base (l+(r-l) / 2) with
     |true=>exact wpS_pure ⟨rfl,_,_,rfl,by omega,by omega,by omega,λi hi=>mono i _ (by omega) (by omega) cb,p5⟩
     |false=>exact wpS_pure ⟨rfl,_,_,rfl,by omega,by omega,by omega,p4,λi a b=>cut _ i a b cb⟩
   ·obtain⟨rfl,l,r,rfl,p1,p2,p3,p4,p5⟩:=h;exact⟨rfl,l,r,rfl,by omega,p1,p2,p4,p5⟩
   ·obtain⟨rfl,l,r,rfl,p0,p1,p2,p4,p5⟩:=h;have:l=r:=by omega
    subst this;exact wpS_pure (q l p2 p4 p5)
end
end SQ
namespace SQ
open PySem PyProof.Rows
set_option autoImplicit false
def zo2:Array Keyed->Array Keyed->StateT SortSt Sem (Array Keyed):=sortPriv% PySem.Builtin.mergeLo
def zo3:Array Keyed->Array Keyed->StateT SortSt Sem (Array Keyed):=sortPriv% PySem.Builtin.mergeHi
def zq8:Nat->StateT SortSt Sem Unit:=sortPriv% PySem.Builtin.setMinGallop
def kk(κ:KeyKind)(p:Keyed):κ.α:=(κ.keyOf p.1).getD κ.dflt
def le(κ:KeyKind)(x y:Keyed):Prop:=κ.kle (kk κ x) (kk κ y)
theorem qx{κ:KeyKind}{xs:Array Keyed}{i:Nat}{p:Keyed}(e:xs[i]?=some p):KK κ xs i=kk κ p:=by unfold KK kk;rw[e]
theorem le_refl{κ:KeyKind}(x:Keyed):le κ x x:=KeyOrd.kle_refl _
theorem le_trans{κ:KeyKind}{x y z:Keyed}(a:le κ x y)(b:le κ y z):le κ x z:=KeyOrd.kle_trans a b
def AllK(κ:KeyKind)(xs:Array Keyed):Prop:=∀p∈xs.toList,κ.keyOf p.1=some (kk κ p)
theorem AllK.ky{κ:KeyKind}{xs:Array Keyed}(h:AllK κ xs)(base n:Nat)(hb:base+n<=xs.size):zuk κ xs base n:=λi hi=>by
 have l:base+i<xs.size:=by omega
 have e:xs[base+i]?=some (xs[base+i]'l):=Array.getElem?_eq_getElem l;exact⟨_,e,by rw[qx e];exact h _ (by simp)⟩
abbrev Srt(κ:KeyKind)(xs:Array Keyed):Prop:=xs.toList.Pairwise (le κ)
theorem Srt.at{κ:KeyKind}{xs:Array Keyed}(h:Srt κ xs){i j:Nat}{p r:Keyed}(hij:i<=j)(e1:xs[i]?=some p)(e2:xs[j]?=some r):le κ p r:=by
 obtain⟨l1,rfl⟩:=Array.getElem?_eq_some_iff.mp e1;obtain⟨l2,rfl⟩:=Array.getElem?_eq_some_iff.mp e2
 by_cases c:i=j
 ·subst c;exact le_refl _
 ·have:=List.pairwise_iff_getElem.mp h i j (by simpa using l1) (by simpa using l2) (by omega);simpa using this
structure MI(κ:KeyKind)(a b out:Array Keyed)(ia ib:Nat):Prop where
 perm:out.toList.Perm (a.toList.take ia++b.toList.take ib)
 sort:out.toList.Pairwise (le κ)
 la:∀x∈out.toList,∀y∈a.toList.drop ia,le κ x y
 lb:∀x∈out.toList,∀y∈b.toList.drop ib,le κ x y
theorem ji{α:Type}{xs:List α}{i:Nat}{p:α}(e:xs[i]?=some p):xs.take (i+1)=xs.take i ++ [p]:=by
 rw[List.take_add_one,e];rfl
theorem ve{α:Type}{xs:List α}{i:Nat}{p:α}(e:xs[i]?=some p):xs.drop i=p::xs.drop (i+1):=by
 obtain⟨l,rfl⟩:=List.getElem?_eq_some_iff.mp e;exact List.drop_eq_getElem_cons l
section
variable {κ:KeyKind}{a b out:Array Keyed}{ia ib:Nat}
theorem jj{xs:Array Keyed}{i:Nat}{p:Keyed}(e:xs[i]?=some p):xs.toList[i]?=some p:=by simpa using e
theorem Srt.rest{xs:Array Keyed}(h:Srt κ xs){i:Nat}{p:Keyed}(e:xs[i]?=some p):∀y∈xs.toList.drop i,le κ p y:=by
 have h2:=h.drop (i:=i);rw[ve (jj e)]at h2 ⊢;intro y hy;rcases List.mem_cons.mp hy with rfl|hy
 ·exact le_refl _
 ·exact(List.pairwise_cons.mp h2).1 y hy
theorem MI.pushB(m:MI κ a b out ia ib)(sb:Srt κ b){p:Keyed}(e:b[ib]?=some p)(h:∀y∈a.toList.drop ia,le κ p y):MI κ a b (out.push p) ia (ib+1) where
 perm:=by
  rw[Array.toList_push,ji (jj e),<-List.append_assoc];exact m.perm.append_right _
 sort:=by
  rw[Array.toList_push];refine List.pairwise_append.mpr ⟨m.sort,List.pairwise_singleton _ _,λx hx y hy=>?_⟩;rw[List.mem_singleton.mp hy];exact m.lb x hx p (by rw[ve (jj e)];exact List.mem_cons_self)
 la:=λx hx y hy=>by
  rw[Array.toList_push]at hx;rcases List.mem_append.mp hx with hx|hx
  ·exact m.la x hx y hy
  ·rw[List.mem_singleton.mp hx];exact h y hy
 lb:=λx hx y hy=>by
  rw[Array.toList_push]at hx;have hy':y∈b.toList.drop ib:=by rw[ve (jj e)];exact List.mem_cons_of_mem _ hy
  rcases List.mem_append.mp hx with hx|hx
  ·exact m.lb x hx y hy'
  ·rw[List.mem_singleton.mp hx];exact sb.rest e y hy'
theorem MI.pushA(m:MI κ a b out ia ib)(sa:Srt κ a){p:Keyed}(e:a[ia]?=some p)(h:∀y∈b.toList.drop ib,le κ p y):MI κ a b (out.push p) (ia+1) ib where
 perm:=by
  rw[Array.toList_push,ji (jj e),List.append_assoc];refine(m.perm.append_right _).trans ?_;rw[List.append_assoc];exact List.Perm.append_left _ List.perm_append_comm
 sort:=by
  rw[Array.toList_push];refine List.pairwise_append.mpr ⟨m.sort,List.pairwise_singleton _ _,λx hx y hy=>?_⟩;rw[List.mem_singleton.mp hy];exact m.la x hx p (by rw[ve (jj e)];exact List.mem_cons_self)
 lb:=λx hx y hy=>by
  rw[Array.toList_push]at hx;rcases List.mem_append.mp hx with hx|hx
  ·exact m.lb x hx y hy
  ·rw[List.mem_singleton.mp hx];exact h y hy
 la:=λx hx y hy=>by
  rw[Array.toList_push]at hx;have hy':y∈a.toList.drop ia:=by rw[ve (jj e)];exact List.mem_cons_of_mem _ hy
  rcases List.mem_append.mp hx with hx|hx
  ·exact m.la x hx y hy'
  ·rw[List.mem_singleton.mp hx];exact sa.rest e y hy'
theorem zbr{xs:Array Keyed}{i k:Nat}{p:Keyed}(e:xs[i+k]?=some p):xs.extract i (i+(k+1))=(xs.extract i (i+k)).push p:=by
 obtain⟨l,rfl⟩:=Array.getElem?_eq_some_iff.mp e;apply Array.ext';rw[Array.toList_push,Array.toList_extract,Array.toList_extract];simp only[List.extract_eq_take_drop];rw[show i+(k+1)-i=k+1 by omega,show i+k-i=k by omega,List.take_add_one];congr 1;rw[List.getElem?_drop];simp[l]
theorem zbs(xs:Array Keyed)(i:Nat):xs.extract i (i+0) = #[]:=by
 apply Array.ext';rw[Array.toList_extract,List.extract_eq_take_drop];simp
theorem MI.chunkA(m:MI κ a b out ia ib)(sa:Srt κ a):∀k:Nat,ia+k<=a.size->(∀i,i<k->∀p,a[ia+i]?=some p->∀y∈b.toList.drop ib,le κ p y)->MI κ a b (out++a.extract ia (ia+k)) (ia+k) ib
 |0,_,_=>by rw[zbs,Array.append_empty];exact m
 |k+1,hk,h=>by
  have e:a[ia+k]?=some a[ia+k]:=getElem?_pos _ _ (by omega);have ih:=m.chunkA sa k (by omega) λi hi=>h i (by omega);rw[zbr e,Array.append_push];exact ih.pushA sa e (h k (by omega) _ e)
theorem MI.chunkB(m:MI κ a b out ia ib)(sb:Srt κ b):∀k:Nat,ib+k<=b.size->(∀i,i<k->∀p,b[ib+i]?=some p->∀y∈a.toList.drop ia,le κ p y)->MI κ a b (out++b.extract ib (ib+k)) ia (ib+k)
 |0,_,_=>by rw[zbs,Array.append_empty];exact m
 |k+1,hk,h=>by
  have e:b[ib+k]?=some b[ib+k]:=getElem?_pos _ _ (by omega);have ih:=m.chunkB sb k (by omega) λi hi=>h i (by omega);rw[zbr e,Array.append_push];exact ih.pushB sb e (h k (by omega) _ e)
def Mg(κ:KeyKind)(a b r:Array Keyed):Prop:=r.toList.Perm (a.toList++b.toList)/\r.toList.Pairwise (le κ)
theorem qc(xs:Array Keyed)(i:Nat):(xs.extract i xs.size).toList=xs.toList.drop i:=by
 rw[Array.toList_extract,List.extract_eq_take_drop,List.take_of_length_le (by simp)]
theorem zh0{α:Type}{o x y u v:List α}(h:o.Perm (x++y)):(o++u++v).Perm ((x++u)++(y++v)):=by
 refine((h.append_right u).append_right v).trans ?_;rw[List.append_assoc,List.append_assoc,List.append_assoc x u];refine List.Perm.append_left x ?_;rw[<-List.append_assoc,<-List.append_assoc];exact List.Perm.append_right v List.perm_append_comm
theorem MI.fin(m:MI κ a b out ia ib)(sa:Srt κ a)(sb:Srt κ b)(h:a.size<=ia\/b.size<=ib):Mg κ a b (out++a.extract ia a.size++b.extract ib b.size):=by
 refine⟨?_,?_⟩
 ·rw[Array.toList_append,Array.toList_append,qc,qc];have:=zh0 (u:=a.toList.drop ia) (v:=b.toList.drop ib) m.perm
  rwa [List.take_append_drop,List.take_append_drop]at this
 ·rw[Array.toList_append,Array.toList_append,qc,qc];rcases h with h|h
  ·rw[List.drop_eq_nil_of_le (by simpa using h:a.toList.length<=ia),List.append_nil];exact List.pairwise_append.mpr ⟨m.sort,sb.drop,m.lb⟩
  ·rw[List.drop_eq_nil_of_le (by simpa using h:b.toList.length<=ib),List.append_nil];exact List.pairwise_append.mpr ⟨m.sort,sa.drop,m.la⟩
theorem MI.last(m:MI κ a b out ia ib)(sa:Srt κ a)(sb:Srt κ b)(h:∀x∈b.toList,∀y∈a.toList.drop ia,le κ x y):Mg κ a b (out++b.extract ib b.size++a.extract ia a.size):=by
 refine⟨?_,?_⟩
 ·rw[Array.toList_append,Array.toList_append,qc,qc];have:=zh0 (u:=b.toList.drop ib) (v:=a.toList.drop ia) (m.perm.trans List.perm_append_comm);rw[List.take_append_drop,List.take_append_drop]at this;exact this.trans List.perm_append_comm
 ·rw[Array.toList_append,Array.toList_append,qc,qc];refine List.pairwise_append.mpr ⟨List.pairwise_append.mpr ⟨m.sort,sb.drop,m.lb⟩,sa.drop,λx hx y hy=>?_⟩;rcases List.mem_append.mp hx with hx|hx
  ·exact m.la x hx y hy
  ·exact h x (List.mem_of_mem_drop hx) y hy
end
structure Gm(st st':SortSt):Prop where
 k:kindOf st'=kindOf st
 a:arrOf st'=arrOf st
 p:pendingOf st'=pendingOf st
 f:failedOf st'=failedOf st
theorem Gm.refl(st:SortSt):Gm st st:=⟨rfl,rfl,rfl,rfl⟩
theorem Gm.trans{x y z:SortSt}(h:Gm x y)(g:Gm y z):Gm x z:=⟨g.k.trans h.k,g.a.trans h.a,g.p.trans h.p,g.f.trans h.f⟩
section
variable {prog:Program}{w:World}{A:Around}{E:Value->Shared->Prop}{s:Shared}{κ:KeyKind}{kd:SortKind}
theorem zbt{st:SortSt}{g:Nat}{Q:Unit->SortSt->Prop}(q:∀st',Gm st st'->Q () st'):wpS (model prog w) A E s (zq8 g) Q st :=
 wpS_modify (f:=λs=>SortSt.mk' (kindOf s) (arrOf s) (pendingOf s) g (failedOf s)) (q _ ⟨rfl,rfl,rfl,rfl⟩)
end
end SQ
namespace SQ
open PySem PyProof.Rows
set_option autoImplicit false
section
variable {prog:Program}{w:World}{A:Around}{E:Value->Shared->Prop}{s:Shared}{κ:KeyKind}{kd:SortKind}
theorem zfa{xs:Array Keyed}{i:Nat}(h:i<xs.size):∃p,xs[i]?=some p/\p∈xs.toList:=⟨xs[i],Array.getElem?_eq_getElem h,by simp⟩
theorem zbu{arr:Array Keyed}{base i:Nat}{k:κ.α}{p:Keyed}(e:arr[base+i]?=some p):byd κ false k arr base i = !κ.blt k (kk κ p):=by unfold byd;rw[qx e];rfl
theorem zbv{arr:Array Keyed}{base i:Nat}{k:κ.α}{p:Keyed}(e:arr[base+i]?=some p):byd κ true k arr base i=κ.blt (kk κ p) k:=by unfold byd;rw[qx e];rfl
theorem zo4{arr:Array Keyed}{base n:Nat}{k:κ.α}(sr:Srt κ arr)(hn:base+n<=arr.size):∀i j,i<=j->j<n->byd κ false k arr base j=true->byd κ false k arr base i=true:=λi j a b c=>by
 obtain⟨p,ep,_⟩:=zfa (xs:=arr) (i:=base+i) (by omega);obtain⟨r,er,_⟩:=zfa (xs:=arr) (i:=base+j) (by omega);rw[zbu er]at c;rw[zbu ep];have l:=sr.at (by omega) ep er;have c':κ.kle (kk κ r) k:=by simpa[KeyOrd.kle]using c
 have:=KeyOrd.kle_trans l c';simpa[KeyOrd.kle]using this
theorem zo5{arr:Array Keyed}{base n:Nat}{k:κ.α}(sr:Srt κ arr)(hn:base+n<=arr.size):∀i j,i<=j->j<n->byd κ true k arr base j=true->byd κ true k arr base i=true:=λi j a b c=>by
 obtain⟨p,ep,_⟩:=zfa (xs:=arr) (i:=base+i) (by omega);obtain⟨r,er,_⟩:=zfa (xs:=arr) (i:=base+j) (by omega);rw[zbv er]at c;rw[zbv ep];exact KeyOrd.klt_of_kle_of_klt (sr.at (by omega) ep er) c
theorem yi{α:Type}{c:Prop}[Decidable c]{x y:StateT SortSt Sem α}{Q:α->SortSt->Prop}{st:SortSt}{M:Model}(h1:c->wpS M A E s x Q st)(h2:¬ c->wpS M A E s y Q st):wpS M A E s (if c then x else y) Q st:=by
 by_cases h:c
 ·rw[if_pos h];exact h1 h
 ·rw[if_neg h];exact h2 h
theorem zk5{α τ:Type}{p:StateT SortSt Sem α}{v:PUnit->τ->StateT SortSt Sem α}{Q:α->SortSt->Prop}{st:SortSt}{M:Model}(R:τ->Prop)(hb:(∀t,R t->wpS M A E s (v ⟨⟩ t) Q st)->wpS M A E s p Q st)(hv:∀t,R t->wpS M A E s (v ⟨⟩ t) Q st):wpS M A E s p Q st:=hb hv
theorem zdk{α τ υ:Type}{p:StateT SortSt Sem α}{v:PUnit->τ->υ->StateT SortSt Sem α}{Q:α->SortSt->Prop}{st:SortSt}{M:Model}(R:τ->υ->Prop)(hb:(∀t u,R t u->wpS M A E s (v ⟨⟩ t u) Q st)->wpS M A E s p Q st)(hv:∀t u,R t u->wpS M A E s (v ⟨⟩ t u) Q st):wpS M A E s p Q st:=hb hv
theorem st4{α β γ δ C:Type}{lo hi:Nat}{F:α->β->γ->δ->C}{P:Nat->SortSt->α->β->γ->δ->Prop}{G:Nat->C->SortSt->Prop}(h:∀x z,lo<=x->x<hi->∀a b c d,P x z a b c d->G x (F a b c d) z):∀x c z,lo<=x->x<hi->(∃a b i d,c=F a b i d/\P x z a b i d)->G x c z:=by
 intro x c z h1 h2 e;obtain⟨a,b,i,d,rfl,p⟩:=e;exact h x z h1 h2 a b i d p
theorem st5{α β γ δ ε C:Type}{lo hi:Nat}{z:SortSt}{F:α->β->γ->δ->ε->C}{P:Nat->α->β->γ->δ->ε->Prop}{G:Nat->C->SortSt->Prop}(h:∀x,lo<=x->x<hi->∀a b c d e,P x a b c d e->G x (F a b c d e) z):∀x c z',lo<=x->x<hi->(z=z'/\∃a b i d e,c=F a b i d e/\P x a b i d e)->G x c z':=by
 intro x c z' h1 h2 e;obtain⟨rfl,a,b,i,d,e,rfl,p⟩:=e;exact h x h1 h2 a b i d e p
theorem st6{α β γ δ ε ζ C:Type}{lo hi:Nat}{F:α->β->γ->δ->ε->ζ->C}{P:Nat->SortSt->α->β->γ->δ->ε->ζ->Prop}{G:Nat->C->SortSt->Prop}(h:∀x z,lo<=x->x<hi->∀a b c d e f,P x z a b c d e f->G x (F a b c d e f) z):∀x c z,lo<=x->x<hi->(∃a b i d e f,c=F a b i d e f/\P x z a b i d e f)->G x c z:=by
 intro x c z h1 h2 e;obtain⟨a,b,i,d,e,f,rfl,p⟩:=e;exact h x z h1 h2 a b i d e f p
theorem po5{ρ τ α β γ δ ε C:Type}{z:SortSt}{K:ρ->τ->C}{R:ρ->τ->Prop}{F:α->β->γ->δ->ε->C}{P:α->β->γ->δ->ε->Prop}{G:C->SortSt->Prop}(k:∀r t,R r t->G (K r t) z)(h:∀a b c d e,P a b c d e->G (F a b c d e) z):∀c z',(z=z'/\((∃r t,c=K r t/\R r t)\/∃a b i d e,c=F a b i d e/\P a b i d e))->G c z':=by
 intro c z' e;obtain⟨rfl,⟨r,t,rfl,p⟩ |⟨a,b,i,d,e,rfl,p⟩⟩:=e
 ·exact k r t p
 ·exact h a b i d e p
theorem po6{ρ τ α β γ δ ε ζ C:Type}{K:ρ->τ->C}{R:SortSt->ρ->τ->Prop}{F:α->β->γ->δ->ε->ζ->C}{P:SortSt->α->β->γ->δ->ε->ζ->Prop}{G:C->SortSt->Prop}(k:∀z r t,R z r t->G (K r t) z)(h:∀z a b c d e f,P z a b c d e f->G (F a b c d e f) z):∀c z',((∃r t,c=K r t/\R z' r t)\/∃a b i d e f,c=F a b i d e f/\P z' a b i d e f)->G c z':=by
 intro c z' e;obtain⟨r,t,rfl,p⟩ |⟨a,b,i,d,e,f,rfl,p⟩:=e
 ·exact k _ r t p
 ·exact h _ a b i d e f p
theorem exA{xs:Array Keyed}{i:Nat}{G:Prop}(h:i<xs.size)(g:∀p,xs[i]?=some p->p∈xs.toList->G):G:=by
 obtain⟨p,e,m⟩:=zfa h;exact g p e m
theorem zms{st:SortSt}{a b:Array Keyed}{Q:Array Keyed->SortSt->Prop}(L:km prog w A s κ kd)(hk:kindOf st=kd)(ka:AllK κ a)(kb:AllK κ b)(sa:Srt κ a)(sb:Srt κ b)(na:1<=a.size)(nb:1<=b.size)
  (hl:∀x∈b.toList,∀y,a[a.size-1]?=some y->le κ x y) (hf:∀p,b[0]?=some p->∀y∈a.toList,le κ p y) (q:∀r st',Gm st st'->Mg κ a b r->Q r st'):wpS (model prog w) A E s (zo2 a b) Q st:=by
 have hlast:∀ia,ia+1=a.size->∀x∈b.toList,∀y∈a.toList.drop ia,le κ x y:=λia e x hx y hy=>by
  obtain⟨p,ep,_⟩:=zfa (xs:=a) (i:=ia) (by omega);rw[ve (jj ep),List.drop_eq_nil_of_le (by simp;omega),List.mem_singleton]at hy;subst hy;exact hl x hx _ (by rw[show a.size-1=ia by omega];exact ep)
 refine wpS_bind (wpS_lift (wpAny_rule ⟨rfl,?_⟩))
 extract_lets -underBinder -merge -useContext total done lastA
 refine exA (xs:=b) (i:=0) (by omega) λp0 e0 _=>?_;refine wpS_bind (xu e0 ?_)
 extract_lets -underBinder -merge -useContext o0 i0 j0
 subst o0 i0 j0;have m0:MI κ a b #[p0] 0 1:=⟨by rw[ji (jj e0)];simp,List.pairwise_singleton _ _,λx hx y hy=>by rw[List.mem_singleton.mp hx];exact hf p0 e0 y (by simpa using hy),λx hx y hy=>by rw[List.mem_singleton.mp hx];exact sb.rest e0 y (List.mem_of_mem_drop hy)⟩
 refine yi (λc1=>wpS_pure (q _ st (Gm.refl _) (m0.fin sa sb (.inr (Nat.le_of_eq (by simpa using c1:1=b.size).symm))))) (λc1=>yi (λc2=>wpS_pure (q _ st (Gm.refl _) (m0.last sa sb (hlast 0 (by simpa using c2))))) (λc2=>?_))
 replace c1:¬ 1=b.size:=by simpa using c1
 replace c2:¬ 0+1=a.size:=by simpa using c2
 refine wpS_bind (wpS_get ?_)
 extract_lets -underBinder -merge -useContext g0
 subst g0;refine wpS_bind (wpS_mono (wpS_forRange (I:=λx c z=>∃out ia ib mg,c=(none,out,ia,ib,mg)/\Gm st z/\MI κ a b out ia ib/\ia+1<a.size/\ib<b.size/\x+1<=ia+ib)
  (Q:=λc z=>∃r rest,c=(some r,rest)/\Gm st z/\Mg κ a b r) (st4 λx z hx1 hx2 out ia ib mg h=>?_) (λc z h=>?_) ⟨_,0,1,_,rfl,Gm.refl _,m0,by omega,by omega,by omega⟩) (λc z h=>?_))
 ·have gm:=h.1;have m:=h.2.1;have ba:=h.2.2.1;have bb:=h.2.2.2.1;have prog_:=h.2.2.2.2;clear h
  extract_lets -underBinder -merge -useContext s1 o1 s2 i1 s3 j1 g1 ac1 bc1
  subst s1 o1 s2 i1 s3 j1 g1 ac1 bc1;dsimp -zeta only;have kz:=gm.k.trans hk;refine wpS_bind (wpS_mono (wpS_forRange (I:=λy c z'=>z=z'/\∃out ia ib ac bc,c=(none,out,ia,ib,ac,bc)/\MI κ a b out ia ib/\ia+1<a.size/\ib<b.size/\x+1<=ia+ib)
   (Q:=λc z'=>z=z'/\((∃r rest,c=(some r,rest)/\Mg κ a b r)\/∃out ia ib ac bc,c=(none,out,ia,ib,ac,bc)/\MI κ a b out ia ib/\ia+1<a.size/\ib<b.size/\x+1<=ia+ib))
   (st5 λy hy1 hy2 out ia ib ac bc h=>?_) (λc z' h=>?_) ⟨rfl,_,_,_,_,_,rfl,m,ba,bb,prog_⟩) (po5 (λr rest hr=>wpS_pure ⟨r,_,rfl,gm,hr⟩) λout ia ib ac bc h=>?_))
  ·have m:=h.1;have ba:=h.2.1;have bb:=h.2.2.1;have prog_:=h.2.2.2;clear h
   try dsimp only
   refine exA (xs:=b) (i:=ib) bb λpb eb mb=>?_;refine exA (xs:=a) (i:=ia) (by omega) λpa ea ma=>?_;refine wpS_bind (xu eb (wpS_bind (xu ea (wpS_bind (zo1 L kz (kb _ mb) (ka _ ma) ?_)))))
   cases cb:κ.blt (kk κ pb) (kk κ pa) with
   |true=>
    dsimp only;rw[if_pos rfl];refine wpS_bind (xu eb ?_);have m':=m.pushB sb eb λy hy=>le_trans (show le κ pb pa from KeyOrd.kle_of_klt cb) (sa.rest ea y hy)
    by_cases d1:ib+1=b.size
    ·rw[if_pos (by simpa using d1)];exact wpS_pure ⟨rfl,.inl ⟨_,_,rfl,m'.fin sa sb (.inr (by omega))⟩⟩
    ·rw[if_neg (by simpa using d1)];refine yi (λ_=>?_) (λ_=>?_)
     ·exact wpS_pure ⟨rfl,.inr ⟨_,_,_,_,_,rfl,m',ba,by omega,by omega⟩⟩
     ·exact wpS_pure ⟨rfl,_,_,_,_,_,rfl,m',ba,by omega,by omega⟩
   |false=>
    dsimp only;rw[if_neg (by decide)];refine wpS_bind (xu ea ?_);have m':=m.pushA sa ea λy hy=>le_trans (show le κ pa pb from cb) (sb.rest eb y hy)
    by_cases d1:ia+1+1=a.size
    ·rw[if_pos (by simpa using d1)];exact wpS_pure ⟨rfl,.inl ⟨_,_,rfl,m'.last sa sb (hlast _ d1)⟩⟩
    ·rw[if_neg (by simpa using d1)];refine yi (λ_=>?_) (λ_=>?_)
     ·exact wpS_pure ⟨rfl,.inr ⟨_,_,_,_,_,rfl,m',by omega,by omega,by omega⟩⟩
     ·exact wpS_pure ⟨rfl,_,_,_,_,_,rfl,m',by omega,by omega,by omega⟩
  ·obtain⟨rfl,h⟩:=h;exact⟨rfl,.inr h⟩
  ·skip
   ·have m:=h.1;have ba:=h.2.1;have bb:=h.2.2.1;have prog_:=h.2.2.2;clear h
    extract_lets -underBinder -merge -useContext r1 s1 o1 s2 i1 s3 j1 s4 ac1 bc1
    subst r1 s1 o1 s2 i1 s3 j1 s4 ac1 bc1;dsimp -zeta only;refine wpS_bind (wpS_lift (wpAny_rule ⟨rfl,?_⟩));refine wpS_bind (wpS_mono (wpS_forRange (I:=λy c z'=>∃out ia ib mg ac bc,c=(none,out,ia,ib,mg,ac,bc)/\Gm st z'/\MI κ a b out ia ib/\ia+1<a.size/\ib<b.size/\x+1+y<=ia+ib)
     (Q:=λc z'=>(∃r rest,c=(some r,rest)/\Gm st z'/\Mg κ a b r)\/∃out ia ib mg ac bc,c=(none,out,ia,ib,mg,ac,bc)/\Gm st z'/\MI κ a b out ia ib/\ia+1<a.size/\ib<b.size/\x+1+1<=ia+ib)
     (st6 λy z' hy1 hy2 out ia ib mg ac bc h=>?_) (λc z' h=>?_) ⟨_,_,_,_,_,_,rfl,gm,m,ba,bb,by omega⟩) (po6 (λz' r rest hr=>wpS_pure ⟨r,_,rfl,hr.1,hr.2⟩) λz' out ia ib mg ac bc h=>?_))
    ·have gm':=h.1;have m:=h.2.1;have ba:=h.2.2.1;have bb:=h.2.2.2.1;have prog_:=h.2.2.2.2;clear h
     extract_lets -underBinder -merge -useContext s1 o1 s2 i1 s3 j1 s4 g1 s5 ac1 bc1 jp
     subst s1 o1 s2 i1 s3 j1 s4 g1 s5 ac1 bc1;dsimp -zeta only;refine exA (xs:=b) (i:=ib) bb λpb eb mb=>?_;refine zk5 (v:=jp) (λ_=>True) (λhj=>yi (λ_=>hj _ trivial) (λ_=>hj _ trivial)) (λmg1 _=>?_);dsimp -zeta only [jp];refine wpS_bind (zbt λz2 g2=>?_);have gm2:=gm'.trans g2;have kz2:=gm2.k.trans hk;refine wpS_bind (xu eb (wpS_bind (jh L kz2 (ka.ky ia (a.size-ia) (by omega)) (kb _ mb) (by omega) (zo4 sa (by omega)) λk hk1 hk2 hk3=>?_)));dsimp -zeta only
     extract_lets -underBinder -merge -useContext ac1 jp2
     subst ac1;refine zdk (v:=jp2) (λo i=>MI κ a b o i ib/\i+1<a.size/\ia<=i/\∀y∈a.toList.drop i,le κ pb y) (λhj=>?_) (λo i h=>?_)
     rotate_left
     ·dsimp -zeta only [jp2];clear jp2 jp;have m2:=h.1;have b2:=h.2.1;have l2:=h.2.2.1;have n2:=h.2.2.2;clear h;refine wpS_bind (xu eb ?_)
      extract_lets -underBinder -merge -useContext o1 j1
      subst o1 j1;have m3:=m2.pushB sb eb n2;refine yi (λd=>wpS_pure (.inl ⟨_,_,rfl,gm2,m3.fin sa sb (.inr (Nat.le_of_eq (by simpa using d:ib+1=b.size).symm))⟩)) (λd=>?_);have d1:¬ (ib+1=b.size):=by simpa using d
      refine exA (xs:=a) (i:=i) (by omega) λpa ea ma=>?_;refine wpS_bind (xu ea (wpS_bind (jh L kz2 (kb.ky (ib+1) (b.size-(ib+1)) (by omega)) (ka _ ma) (by omega) (zo5 sb (by omega)) λk2 g1 g3 g4=>?_)));dsimp -zeta only
      extract_lets -underBinder -merge -useContext bc1 jp
      subst bc1;refine zdk (v:=jp) (λo u=>MI κ a b o i u/\u<b.size/\ib+1<=u/\∀y∈b.toList.drop u,le κ pa y) (λhj=>?_) (λo u h=>?_)
      rotate_left
      ·dsimp -zeta only [jp];clear jp;have m4:=h.1;have b4:=h.2.1;have l4:=h.2.2.1;have n4:=h.2.2.2;clear h;refine wpS_bind (xu ea ?_)
       extract_lets -underBinder -merge -useContext o1 i1
       subst o1 i1;have m5:=m4.pushA sa ea n4;refine yi (λd=>wpS_pure (.inl ⟨_,_,rfl,gm2,m5.last sa sb (hlast _ (by simpa using d))⟩)) (λd=>?_);have d6:¬ (i+1+1=a.size):=by simpa using d
       have d5:i+1+1<a.size:=by omega
       refine yi (λ_=>wpS_pure (.inr ⟨_,_,_,_,_,_,rfl,gm2,m5,d5,b4,by omega⟩)) (λ_=>wpS_pure ⟨_,_,_,_,_,_,rfl,gm2,m5,d5,b4,by omega⟩)
      ·have mk2:=m3.chunkB sb k2 (by omega) λi hi p ep y hy=>by
        have:=g3 i hi;rw[zbv ep]at this;exact le_trans (show le κ p pa from KeyOrd.kle_of_klt this) (sa.rest ea y hy)
       have nx2:ib+1+k2<b.size->∀y∈b.toList.drop (ib+1+k2),le κ pa y:=λhlt y hy=>by
        obtain⟨p,ep,_⟩:=zfa (xs:=b) (i:=ib+1+k2) hlt;have:=g4 k2 (Nat.le_refl _) (by omega);rw[zbv ep]at this;exact le_trans (show le κ pa p from this) (sb.rest ep y hy)
       refine yi (λk0=>yi (λd=>wpS_pure (.inl ⟨_,_,rfl,gm2,mk2.fin sa sb (.inr (Nat.le_of_eq (by simpa using d:ib+1+k2=b.size).symm))⟩)) (λd=>?_)) (λk0=>?_)
       ·have d2:¬ (ib+1+k2=b.size):=by simpa using d
        exact hj _ _ ⟨mk2,by omega,by omega,nx2 (by omega)⟩
       ·have k2e:k2=0:=by omega
        subst k2e;exact hj _ _ ⟨m3,by omega,by omega,nx2 (by omega)⟩
     ·have ck:∀i,i<k->∀p,a[ia+i]?=some p->∀y∈b.toList.drop ib,le κ p y:=λi hi p ep y hy=>by
       have:=hk2 i hi;rw[zbu ep]at this;exact le_trans (show le κ p pb from by simpa[le,KeyOrd.kle]using this) (sb.rest eb y hy)
      have mk:=m.chunkA sa k (by omega) ck;have nx:ia+k<a.size->∀y∈a.toList.drop (ia+k),le κ pb y:=λhlt y hy=>by
       obtain⟨p,ep,_⟩:=zfa (xs:=a) (i:=ia+k) hlt;have:=hk3 k (Nat.le_refl _) (by omega);rw[zbu ep]at this;exact le_trans (show le κ pb p from KeyOrd.kle_of_klt (by simpa[KeyOrd.klt]using this)) (sa.rest ep y hy)
      refine yi (λk0=>yi (λd=>wpS_pure (.inl ⟨_,_,rfl,gm2,mk.last sa sb (hlast _ (by simpa using d))⟩)) (λd=>yi (λd2=>wpS_pure (.inl ⟨_,_,rfl,gm2,mk.fin sa sb (.inl (Nat.le_of_eq (by simpa using d2:ia+k=a.size).symm))⟩)) (λd2=>?_))) (λk0=>?_)
      ·have d3:¬ (ia+k+1=a.size):=by simpa using d
       have d4:¬ (ia+k=a.size):=by simpa using d2
       exact hj _ _ ⟨mk,by omega,by omega,nx (by omega)⟩
      ·have ke:k=0:=by omega
       subst ke;exact hj _ _ ⟨m,ba,by omega,nx (by omega)⟩
    ·obtain⟨out,ia,ib,mg,ac,bc,rfl,gm',m,ba,bb,prog_⟩:=h;exact .inr ⟨_,_,_,_,_,_,rfl,gm',m,ba,bb,by omega⟩
    ·dsimp only;refine wpS_bind (zbt λz2 g2=>wpS_pure ⟨_,_,_,_,rfl,h.1.trans g2,h.2.1,h.2.2.1,h.2.2.2.1,by omega⟩)
 ·obtain⟨out,ia,ib,mg,rfl,gm,m,ba,bb,prog_⟩:=h;omega
 ·obtain⟨r,rest,rfl,gm,hr⟩:=h;exact wpS_pure (q r z gm hr)
end
end SQ
namespace SQ
open PySem PyProof.Rows
set_option autoImplicit false
structure MH(κ:KeyKind)(a b out:Array Keyed)(na nb:Nat):Prop where
 perm:out.toList.reverse.Perm (a.toList.drop na++b.toList.drop nb)
 sort:out.toList.reverse.Pairwise (le κ)
 la:∀x∈a.toList.take na,∀y∈out.toList.reverse,le κ x y
 lb:∀x∈b.toList.take nb,∀y∈out.toList.reverse,le κ x y
theorem zdl{xs:Array Keyed}{n:Nat}{x:Keyed}(h:x∈xs.toList.take n):∃i,i<n/\xs[i]?=some x:=by
 obtain⟨i,hi,e⟩:=List.mem_iff_getElem.mp h;refine⟨i,by rw[List.length_take]at hi;omega,?_⟩;rw[List.getElem_take]at e;rw[List.length_take]at hi;rw[<-Array.getElem?_toList,List.getElem?_eq_getElem (by omega),e]
section
variable {κ:KeyKind}{a b out:Array Keyed}{na nb:Nat}
theorem Srt.upto{xs:Array Keyed}(h:Srt κ xs){n:Nat}{p:Keyed}(h1:1<=n)(e:xs[n-1]?=some p):∀x∈xs.toList.take n,le κ x p:=λx hx=>by
 obtain⟨i,hi,ei⟩:=zdl hx;exact h.at (by omega) ei e
theorem za6{xs:Array Keyed}{n:Nat}{p:Keyed}(h1:1<=n)(e:xs[n-1]?=some p):xs.toList.drop (n-1)=p::xs.toList.drop n:=by
 have:=ve (jj e)
 rwa [show n-1+1=n by omega]at this
theorem h7{xs:Array Keyed}{n:Nat}{x:Keyed}(h:x∈xs.toList.take (n-1)):x∈xs.toList.take n:=by
 have:xs.toList.take (n-1)=(xs.toList.take n).take (n-1):=by rw[List.take_take,show min (n-1) n=n-1 by omega]
 rw[this]at h;exact List.mem_of_mem_take h
theorem MH.pushA(m:MH κ a b out na nb)(h1:1<=na)(sa:Srt κ a){p:Keyed}(e:a[na-1]?=some p)(h:∀x∈b.toList.take nb,le κ x p):MH κ a b (out.push p) (na-1) nb where
 perm:=by
  rw[Array.toList_push,List.reverse_append,za6 h1 e];exact List.Perm.cons p m.perm
 sort:=by
  rw[Array.toList_push,List.reverse_append];refine List.pairwise_cons.mpr ⟨λy hy=>?_,m.sort⟩;obtain⟨q,eq⟩:∃q,q=na-1:=⟨_,rfl⟩
  exact m.la p (by
   have:na=(na-1)+1:=by omega
   rw[this,ji (jj e)];simp) y hy
 la:=λx hx y hy=>by
  rw[Array.toList_push,List.reverse_append]at hy;rcases List.mem_cons.mp hy with rfl|hy
  ·exact sa.upto h1 e x (h7 hx)
  ·exact m.la x (h7 hx) y hy
 lb:=λx hx y hy=>by
  rw[Array.toList_push,List.reverse_append]at hy;rcases List.mem_cons.mp hy with rfl|hy
  ·exact h x hx
  ·exact m.lb x hx y hy
theorem MH.pushB(m:MH κ a b out na nb)(h1:1<=nb)(sb:Srt κ b){p:Keyed}(e:b[nb-1]?=some p)(h:∀x∈a.toList.take na,le κ x p):MH κ a b (out.push p) na (nb-1) where
 perm:=by
  rw[Array.toList_push,List.reverse_append,za6 h1 e];exact(List.Perm.cons p m.perm).trans List.perm_middle.symm
 sort:=by
  rw[Array.toList_push,List.reverse_append];refine List.pairwise_cons.mpr ⟨λy hy=>?_,m.sort⟩;exact m.lb p (by
   have:nb=(nb-1)+1:=by omega
   rw[this,ji (jj e)];simp) y hy
 lb:=λx hx y hy=>by
  rw[Array.toList_push,List.reverse_append]at hy;rcases List.mem_cons.mp hy with rfl|hy
  ·exact sb.upto h1 e x (h7 hx)
  ·exact m.lb x (h7 hx) y hy
 la:=λx hx y hy=>by
  rw[Array.toList_push,List.reverse_append]at hy;rcases List.mem_cons.mp hy with rfl|hy
  ·exact h x hx
  ·exact m.la x hx y hy
theorem zh1{xs:Array Keyed}{i n:Nat}{p:Keyed}(hn:i<n)(h:n<=xs.size)(e:xs[i]?=some p):(xs.extract i n).reverse=((xs.extract (i+1) n).reverse).push p:=by
 apply Array.ext';rw[Array.toList_push,Array.toList_reverse,Array.toList_reverse,Array.toList_extract,Array.toList_extract];simp only[List.extract_eq_take_drop];rw[ve (jj e),show n-i=(n-(i+1))+1 by omega,List.take_succ_cons,List.reverse_cons]
theorem MH.chunkA(m:MH κ a b out na nb)(sa:Srt κ a)(hn:na<=a.size):∀k:Nat,k<=na->(∀i,k<=i->i<na->∀p,a[i]?=some p->∀x∈b.toList.take nb,le κ x p)->MH κ a b (out++(a.extract k na).reverse) k nb:=by
 intro k hk h;obtain⟨d,hd⟩:∃d,na-k=d:=⟨_,rfl⟩
 induction d generalizing k with
 |zero=>
  have:k=na:=by omega
  subst this;rw[show a.extract k k = #[] by have:=zbs a k;rwa [Nat.add_zero]at this,Array.reverse_empty,Array.append_empty];exact m
 |succ d ih=>
  have e:a[k]?=some (a[k]'(by omega)):=Array.getElem?_eq_getElem _;have:=ih (k+1) (by omega) (λi h1 h2=>h i (by omega) h2) (by omega);rw[zh1 (by omega) hn e,Array.append_push];have r:=this.pushA (by omega) sa (by rw[show k+1-1=k by omega];exact e) (h k (Nat.le_refl _) (by omega) _ e)
  rwa [show k+1-1=k by omega]at r
theorem MH.chunkB'(m:MH κ a b out na nb)(sb:Srt κ b)(hn:nb<=b.size):∀k:Nat,k<=nb->(∀i,k<=i->i<nb->∀p,b[i]?=some p->∀x∈a.toList.take na,le κ x p)->MH κ a b (out++(b.extract k nb).reverse) na k:=by
 intro k hk h;obtain⟨d,hd⟩:∃d,nb-k=d:=⟨_,rfl⟩
 induction d generalizing k with
 |zero=>
  have:k=nb:=by omega
  subst this;rw[show b.extract k k = #[] by have:=zbs b k;rwa [Nat.add_zero]at this,Array.reverse_empty,Array.append_empty];exact m
 |succ d ih=>
  have e:b[k]?=some (b[k]'(by omega)):=Array.getElem?_eq_getElem _;have:=ih (k+1) (by omega) (λi h1 h2=>h i (by omega) h2) (by omega);rw[zh1 (by omega) hn e,Array.append_push];have r:=this.pushB (by omega) sb (by rw[show k+1-1=k by omega];exact e) (h k (Nat.le_refl _) (by omega) _ e)
  rwa [show k+1-1=k by omega]at r
theorem qe(xs:Array Keyed)(n:Nat):(xs.extract 0 n).toList=xs.toList.take n:=by
 rw[Array.toList_extract,List.extract_eq_take_drop,List.drop_zero,Nat.sub_zero]
theorem zk6{α:Type}{o x y u v:List α}(h:o.Perm (x++y)):(u++v++o).Perm ((u++x)++(v++y)):=by
 refine(List.Perm.append_left _ h).trans ?_;rw[List.append_assoc,List.append_assoc u x];refine List.Perm.append_left u ?_;rw[<-List.append_assoc,<-List.append_assoc];exact List.Perm.append_right y List.perm_append_comm
theorem MH.fin(m:MH κ a b out na nb)(sa:Srt κ a)(sb:Srt κ b)(h:na=0\/nb=0):Mg κ a b (a.extract 0 na++b.extract 0 nb++out.reverse):=by
 refine⟨?_,?_⟩
 ·rw[Array.toList_append,Array.toList_append,qe,qe,Array.toList_reverse];have:=zk6 (u:=a.toList.take na) (v:=b.toList.take nb) m.perm
  rwa [List.take_append_drop,List.take_append_drop]at this
 ·rw[Array.toList_append,Array.toList_append,qe,qe,Array.toList_reverse];rcases h with rfl|rfl
  ·rw[List.take_zero,List.nil_append];exact List.pairwise_append.mpr ⟨sb.take,m.sort,m.lb⟩
  ·rw[List.take_zero,List.append_nil];exact List.pairwise_append.mpr ⟨sa.take,m.sort,m.la⟩
theorem MH.first(m:MH κ a b out na nb)(sa:Srt κ a)(sb:Srt κ b)(h:∀x∈b.toList.take nb,∀y∈a.toList,le κ x y):Mg κ a b (b.extract 0 nb++a.extract 0 na++out.reverse):=by
 refine⟨?_,?_⟩
 ·rw[Array.toList_append,Array.toList_append,qe,qe,Array.toList_reverse];have:=zk6 (u:=b.toList.take nb) (v:=a.toList.take na) (m.perm.trans List.perm_append_comm);rw[List.take_append_drop,List.take_append_drop]at this;exact this.trans List.perm_append_comm
 ·rw[Array.toList_append,Array.toList_append,qe,qe,Array.toList_reverse];refine List.pairwise_append.mpr ⟨List.pairwise_append.mpr ⟨sb.take,sa.take,λx hx y hy=>h x hx y (List.mem_of_mem_take hy)⟩,m.sort,λx hx y hy=>?_⟩;rcases List.mem_append.mp hx with hx|hx
  ·exact m.lb x hx y hy
  ·exact m.la x hx y hy
end
section
variable {prog:Program}{w:World}{A:Around}{E:Value->Shared->Prop}{s:Shared}{κ:KeyKind}{kd:SortKind}
theorem zmt{st:SortSt}{a b:Array Keyed}{Q:Array Keyed->SortSt->Prop}(L:km prog w A s κ kd)(hk:kindOf st=kd)(ka:AllK κ a)(kb:AllK κ b)(sa:Srt κ a)(sb:Srt κ b)(sa1:1<=a.size)(sb1:1<=b.size)
  (hl:∀x∈b.toList,∀y,a[a.size-1]?=some y->le κ x y) (hf:∀p,b[0]?=some p->∀y∈a.toList,le κ p y) (q:∀r st',Gm st st'->Mg κ a b r->Q r st'):wpS (model prog w) A E s (zo3 a b) Q st:=by
 have hfirst:∀nb,nb<=1->∀x∈b.toList.take nb,∀y∈a.toList,le κ x y:=λnb h1 x hx y hy=>by
  obtain⟨i,hi,e⟩:=zdl hx;have:i=0:=by omega
  subst this;exact hf x e y hy
 refine wpS_bind (wpS_lift (wpAny_rule ⟨rfl,?_⟩))
 extract_lets -underBinder -merge -useContext total done firstB na0 nb0
 subst na0 nb0;refine exA (xs:=a) (i:=a.size-1) (by omega) λp0 e0 _=>?_;refine wpS_bind (xu e0 ?_)
 extract_lets -underBinder -merge -useContext o0
 subst o0;have m0:MH κ a b #[p0] (a.size-1) b.size:=⟨by
   rw[za6 sa1 e0,List.drop_eq_nil_of_le (by simp),List.drop_eq_nil_of_le (by simp)];simp,by simp,λx hx y hy=>by
   have hy:y=p0:=by simpa using hy
   subst hy;exact sa.upto sa1 e0 x (h7 hx),λx hx y hy=>by
   have hy:y=p0:=by simpa using hy
   subst hy;exact hl x (List.mem_of_mem_take hx) _ e0⟩
 refine yi (λc1=>?_) (λc1=>yi (λc2=>?_) (λc2=>?_))
 ·exact wpS_pure (q _ st (Gm.refl _) (m0.fin sa sb (.inl (by simpa using c1))))
 ·exact wpS_pure (q _ st (Gm.refl _) (m0.first sa sb (hfirst _ (Nat.le_of_eq (by simpa using c2)))))
 have c3:¬ (a.size-1=0):=by simpa using c1
 have c4:¬ (b.size=1):=by simpa using c2
 refine wpS_bind (wpS_get ?_)
 extract_lets -underBinder -merge -useContext g0
 subst g0;refine wpS_bind (wpS_mono (wpS_forRange (I:=λx c z=>∃na nb out mg,c=(none,na,nb,out,mg)/\Gm st z/\MH κ a b out na nb/\(1<=na/\na<=a.size)/\(2<=nb/\nb<=b.size)/\na+nb+(x+1)<=a.size+b.size)
  (Q:=λc z=>∃r rest,c=(some r,rest)/\Gm st z/\Mg κ a b r) (st4 λx z hx1 hx2 na nb out mg h=>?_) (λc z h=>?_) ⟨_,_,_,_,rfl,Gm.refl _,m0,by omega,by omega,by omega⟩) (λc z h=>?_))
 ·have gm:=h.1;have m:=h.2.1;have ba:=h.2.2.1;have bb:=h.2.2.2.1;have prog_:=h.2.2.2.2;clear h
  extract_lets -underBinder -merge -useContext s1 o1 s2 i1 s3 j1 g1 ac1 bc1
  subst s1 o1 s2 i1 s3 j1 g1 ac1 bc1;dsimp -zeta only;have kz:=gm.k.trans hk;refine wpS_bind (wpS_mono (wpS_forRange (I:=λy c z'=>z=z'/\∃na nb out ac bc,c=(none,na,nb,out,ac,bc)/\MH κ a b out na nb/\(1<=na/\na<=a.size)/\(2<=nb/\nb<=b.size)/\na+nb+(x+1)<=a.size+b.size)
   (Q:=λc z'=>z=z'/\((∃r rest,c=(some r,rest)/\Mg κ a b r)\/∃na nb out ac bc,c=(none,na,nb,out,ac,bc)/\MH κ a b out na nb/\(1<=na/\na<=a.size)/\(2<=nb/\nb<=b.size)/\na+nb+(x+1)<=a.size+b.size))
   (st5 λy hy1 hy2 na nb out ac bc h=>?_) (λc z' h=>?_) ⟨rfl,_,_,_,_,_,rfl,m,ba,bb,prog_⟩) (po5 (λr rest hr=>wpS_pure ⟨r,_,rfl,gm,hr⟩) λna nb out ac bc h=>?_))
  ·have m:=h.1;have ba:=h.2.1;have bb:=h.2.2.1;have prog_:=h.2.2.2;clear h;dsimp only;refine exA (xs:=b) (i:=nb-1) (by omega) λpb eb mb=>?_;refine exA (xs:=a) (i:=na-1) (by omega) λpa ea ma=>?_;refine wpS_bind (xu eb (wpS_bind (xu ea (wpS_bind (zo1 L kz (kb _ mb) (ka _ ma) ?_)))))
   cases cb:κ.blt (kk κ pb) (kk κ pa) with
   |true=>
    dsimp only;rw[if_pos rfl];refine wpS_bind (xu ea ?_);have m':=m.pushA ba.1 sa ea λx hx=>le_trans (sb.upto (by omega) eb x hx) (show le κ pb pa from KeyOrd.kle_of_klt cb);refine yi (λd=>wpS_pure ⟨rfl,.inl ⟨_,_,rfl,m'.fin sa sb (.inl (by simpa using d))⟩⟩) (λd=>?_);have d1:¬ (na-1=0):=by simpa using d
    refine yi (λ_=>wpS_pure ⟨rfl,.inr ⟨_,_,_,_,_,rfl,m',by omega,bb,by omega⟩⟩) (λ_=>wpS_pure ⟨rfl,_,_,_,_,_,rfl,m',by omega,bb,by omega⟩)
   |false=>
    dsimp only;rw[if_neg (by decide)];refine wpS_bind (xu eb ?_);have m':=m.pushB (by omega) sb eb λx hx=>le_trans (sa.upto ba.1 ea x hx) (show le κ pa pb from cb);refine yi (λd=>wpS_pure ⟨rfl,.inl ⟨_,_,rfl,m'.first sa sb (hfirst _ (Nat.le_of_eq (by simpa using d)))⟩⟩) (λd=>?_);have d1:¬ (nb-1=1):=by simpa using d
    refine yi (λ_=>wpS_pure ⟨rfl,.inr ⟨_,_,_,_,_,rfl,m',ba,by omega,by omega⟩⟩) (λ_=>wpS_pure ⟨rfl,_,_,_,_,_,rfl,m',ba,by omega,by omega⟩)
  ·obtain⟨rfl,h⟩:=h;exact⟨rfl,.inr h⟩
  ·skip
   ·have m:=h.1;have ba:=h.2.1;have bb:=h.2.2.1;have prog_:=h.2.2.2;clear h
    extract_lets -underBinder -merge -useContext r1 s1 o1 s2 i1 s3 j1 s4 ac1 bc1
    subst r1 s1 o1 s2 i1 s3 j1 s4 ac1 bc1;dsimp -zeta only;refine wpS_bind (wpS_lift (wpAny_rule ⟨rfl,?_⟩));refine wpS_bind (wpS_mono (wpS_forRange (I:=λy c z'=>∃na nb out mg ac bc,c=(none,na,nb,out,mg,ac,bc)/\Gm st z'/\MH κ a b out na nb/\(1<=na/\na<=a.size)/\(2<=nb/\nb<=b.size)/\na+nb+(x+1+y)<=a.size+b.size)
     (Q:=λc z'=>(∃r rest,c=(some r,rest)/\Gm st z'/\Mg κ a b r)\/∃na nb out mg ac bc,c=(none,na,nb,out,mg,ac,bc)/\Gm st z'/\MH κ a b out na nb/\(1<=na/\na<=a.size)/\(2<=nb/\nb<=b.size)/\na+nb+(x+1+1)<=a.size+b.size)
     (st6 λy z' hy1 hy2 na nb out mg ac bc h=>?_) (λc z' h=>?_) ⟨_,_,_,_,_,_,rfl,gm,m,ba,bb,by omega⟩) (po6 (λz' r rest hr=>wpS_pure ⟨r,_,rfl,hr.1,hr.2⟩) λz' na nb out mg ac bc h=>?_))
    ·have gm':=h.1;have m:=h.2.1;have ba:=h.2.2.1;have bb:=h.2.2.2.1;have prog_:=h.2.2.2.2;clear h
     extract_lets -underBinder -merge -useContext s1 o1 s2 i1 s3 j1 s4 g1 s5 ac1 bc1 jp
     subst s1 o1 s2 i1 s3 j1 s4 g1 s5 ac1 bc1;dsimp -zeta only;refine exA (xs:=b) (i:=nb-1) (by omega) λpb eb mb=>?_;refine zk5 (v:=jp) (λ_=>True) (λhj=>yi (λ_=>hj _ trivial) (λ_=>hj _ trivial)) (λmg1 _=>?_);dsimp -zeta only [jp];refine wpS_bind (zbt λz2 g2=>?_);have gm2:=gm'.trans g2;have kz2:=gm2.k.trans hk;refine wpS_bind (xu eb (wpS_bind (jh L kz2 (ka.ky 0 na (by omega)) (kb _ mb) (by omega) (zo4 sa (by omega)) λk hk1 hk2 hk3=>?_)));dsimp -zeta only
     extract_lets -underBinder -merge -useContext k1 ac1 jp2
     subst ac1 k1;refine zdk (v:=jp2) (λ(i:Nat) o=>MH κ a b o i nb/\(1<=i/\i<=na)/\∀x∈a.toList.take i,le κ x pb) (λhj=>?_) (λi o h=>?_)
     rotate_left
     ·dsimp -zeta only [jp2];clear jp2 jp
      extract_lets -underBinder -merge -useContext n1
      subst n1;have m2:=h.1;have b2:=h.2.1;have n2:=h.2.2;clear h;refine wpS_bind (xu eb ?_)
      extract_lets -underBinder -merge -useContext o1
      subst o1;have m3:=m2.pushB (by omega) sb eb n2;refine yi (λd=>wpS_pure (.inl ⟨_,_,rfl,gm2,m3.first sa sb (hfirst _ (Nat.le_of_eq (by simpa using d)))⟩)) (λd=>?_);have d1:¬ (nb-1=1):=by simpa using d
      refine exA (xs:=a) (i:=i-1) (by omega) λpa ea ma=>?_;refine wpS_bind (xu ea (wpS_bind (jh L kz2 (kb.ky 0 (nb-1) (by omega)) (ka _ ma) (by omega) (zo5 sb (by omega)) λk2 g1 g3 g4=>?_)));dsimp -zeta only
      extract_lets -underBinder -merge -useContext k1 bc1 jp
      subst bc1 k1;refine zdk (v:=jp) (λ(u:Nat) o=>MH κ a b o i u/\(2<=u/\u<=nb-1)/\∀x∈b.toList.take u,le κ x pa) (λhj=>?_) (λu o h=>?_)
      rotate_left
      ·dsimp -zeta only [jp];clear jp
       extract_lets -underBinder -merge -useContext n1
       subst n1;have m4:=h.1;have b4:=h.2.1;have n4:=h.2.2;clear h;refine wpS_bind (xu ea ?_)
       extract_lets -underBinder -merge -useContext o1
       subst o1;have m5:=m4.pushA (by omega) sa ea n4;refine yi (λd=>wpS_pure (.inl ⟨_,_,rfl,gm2,m5.fin sa sb (.inl (by simpa using d))⟩)) (λd=>?_);have d6:¬ (i-1=0):=by simpa using d
       refine yi (λ_=>wpS_pure (.inr ⟨_,_,_,_,_,_,rfl,gm2,m5,by omega,by omega,by omega⟩)) (λ_=>wpS_pure ⟨_,_,_,_,_,_,rfl,gm2,m5,by omega,by omega,by omega⟩)
      ·have mk2:=m3.chunkB' sb (by omega) k2 g1 λi h1 h2 p ep x hx=>by
        have:=g4 i h1 h2;rw[zbv (by rw[Nat.zero_add];exact ep)]at this;exact le_trans (sa.upto (by omega) ea x hx) (show le κ pa p from this)
       have nx2:∀x∈b.toList.take k2,le κ x pa:=λx hx=>by
        obtain⟨i,hi,ei⟩:=zdl hx;have:=g3 i hi;rw[zbv (by rw[Nat.zero_add];exact ei)]at this;exact KeyOrd.kle_of_klt this
       refine yi (λk0=>yi (λd=>wpS_pure (.inl ⟨_,_,rfl,gm2,mk2.first sa sb (hfirst _ (Nat.le_of_eq (by simpa using d)))⟩)) (λd=>yi (λd2=>wpS_pure (.inl ⟨_,_,rfl,gm2,mk2.fin sa sb (.inr (by simpa using d2))⟩)) (λd2=>?_))) (λk0=>?_)
       ·have d3:¬ (k2=1):=by simpa using d
        have d4:¬ (k2=0):=by simpa using d2
        exact hj _ _ ⟨mk2,by omega,nx2⟩
       ·have k2e:k2=nb-1:=by omega
        subst k2e;exact hj _ _ ⟨m3,by omega,nx2⟩
     ·have ck:∀i,k<=i->i<na->∀p,a[i]?=some p->∀x∈b.toList.take nb,le κ x p:=λi h1 h2 p ep x hx=>by
       have:=hk3 i h1 h2;rw[zbu (by rw[Nat.zero_add];exact ep)]at this;exact le_trans (sb.upto (by omega) eb x hx) (show le κ pb p from KeyOrd.kle_of_klt (by simpa[KeyOrd.klt]using this))
      have mk:=m.chunkA sa (by omega) k hk1 ck;have nx:∀x∈a.toList.take k,le κ x pb:=λx hx=>by
       obtain⟨i,hi,ei⟩:=zdl hx;have:=hk2 i hi;rw[zbu (by rw[Nat.zero_add];exact ei)]at this;simpa[le,KeyOrd.kle]using this
      refine yi (λk0=>yi (λd=>wpS_pure (.inl ⟨_,_,rfl,gm2,mk.fin sa sb (.inl (by simpa using d))⟩)) (λd=>?_)) (λk0=>?_)
      ·have d3:¬ (k=0):=by simpa using d
       exact hj _ _ ⟨mk,by omega,nx⟩
      ·have ke:k=na:=by omega
       subst ke;exact hj _ _ ⟨m,by omega,nx⟩
    ·obtain⟨na,nb,out,mg,ac,bc,rfl,gm',m,ba,bb,prog_⟩:=h;exact .inr ⟨_,_,_,_,_,_,rfl,gm',m,ba,bb,by omega⟩
    ·dsimp only;refine wpS_bind (zbt λz2 g2=>wpS_pure ⟨_,_,_,_,rfl,h.1.trans g2,h.2.1,h.2.2.1,h.2.2.2.1,by omega⟩)
 ·obtain⟨na,nb,out,mg,rfl,gm,m,ba,bb,prog_⟩:=h;omega
 ·obtain⟨r,rest,rfl,gm,hr⟩:=h;exact wpS_pure (q r z gm hr)
end
end SQ
namespace SQ
open PySem PyProof.Rows
set_option autoImplicit false
theorem zk7(at_:Nat):∀(l:List Keyed) (n:Nat) (xs:Array Keyed),at_+n+l.length<=xs.size ->
  ((l.zipIdx n).foldl (λa pj=>a.setIfInBounds (at_+pj.2) pj.1) xs).toList=xs.toList.take (at_+n)++l++xs.toList.drop (at_+n+l.length)
 |[],n,xs,_=>by simp
 |p::l,n,xs,h=>by
  rw[List.length_cons]at h;rw[List.zipIdx_cons,List.foldl_cons,zk7 at_ l (n+1) _ (by simpa using (by omega:at_+(n+1)+l.length<=xs.size))];simp only[Array.toList_setIfInBounds,List.length_cons];have hl:at_+n<xs.toList.length:=by simpa using (by omega:at_+n<xs.size)
  rw[List.drop_set_of_lt (by omega),show at_+(n+1)=(at_+n)+1 by omega,List.take_add_one,List.getElem?_set_self hl,List.take_set_of_le (Nat.le_refl _)];simp[Nat.add_assoc,Nat.add_comm,Nat.add_left_comm]
theorem zgu{xs:Array Keyed}{lo n i:Nat}(hi:i<n):((xs.toList.drop lo).take n)[i]?=xs[lo+i]?:=by
 rw[List.getElem?_take_of_lt hi,List.getElem?_drop,Array.getElem?_toList]
theorem zfs{κ:KeyKind}{xs:Array Keyed}{lo n:Nat}(h:lo+n<=xs.size):Up κ xs lo n↔((xs.toList.drop lo).take n).Pairwise (le κ):=by
 have len:((xs.toList.drop lo).take n).length=n:=by simp;omega
 have el:∀i (hi:i<n),∃p,xs[lo+i]?=some p/\((xs.toList.drop lo).take n)[i]?=some p:=λi hi=>⟨xs[lo+i],Array.getElem?_eq_getElem (by omega),by rw[zgu hi];exact Array.getElem?_eq_getElem (by omega)⟩
 constructor
 ·intro u;rw[List.pairwise_iff_getElem];intro i j h1 h2 hij;rw[len]at h1 h2;obtain⟨p,e1,e2⟩:=el i h1;obtain⟨r,e3,e4⟩:=el j h2;have:=u (lo+i) (lo+j) (by omega) (by omega) (by omega);rw[qx e1,qx e3]at this;obtain⟨_,q1⟩:=List.getElem?_eq_some_iff.mp e2;obtain⟨_,q2⟩:=List.getElem?_eq_some_iff.mp e4;rw[q1,q2];exact this
 ·intro u i j h1 h2 h3;obtain⟨p,e1,e2⟩:=el (i-lo) (by omega);obtain⟨r,e3,e4⟩:=el (j-lo) (by omega);rw[show lo+(i-lo)=i by omega]at e1;rw[show lo+(j-lo)=j by omega]at e3;rw[qx e1,qx e3]
  by_cases c:i=j
  ·subst c;rw[e1]at e3;cases e3;exact KeyOrd.kle_refl _
  ·obtain⟨l1,q1⟩:=List.getElem?_eq_some_iff.mp e2;obtain⟨l2,q2⟩:=List.getElem?_eq_some_iff.mp e4;have:=List.pairwise_iff_getElem.mp u (i-lo) (j-lo) l1 l2 (by omega);rw[q1,q2]at this;exact this
theorem zgv(xs:Array Keyed)(lo hi:Nat):(xs.extract lo hi).toList=(xs.toList.drop lo).take (hi-lo):=by
 rw[Array.toList_extract,List.extract_eq_take_drop]
section
variable {prog:Program}{w:World}{A:Around}{E:Value->Shared->Prop}{s:Shared}{κ:KeyKind}{kd:SortKind}{a₀:Array Keyed}
theorem AllK.of{xs:Array Keyed}(h:∀p∈xs.toList,∃a,κ.keyOf p.1=some a):AllK κ xs:=λp hp=>by
 obtain⟨a,e⟩:=h p hp;unfold kk;rw[e];rfl
theorem SG.allK{st:SortSt}(g:SG kd a₀ st)(h0:KeysOf κ a₀):AllK κ (arrOf st):=AllK.of λp hp=>h0 p ((Array.perm_iff_toList_perm.mp g.perm).mem_iff.mp hp)
theorem zjs{l:List Keyed}{sa na nb k nb':Nat}{M:List Keyed}(hs:sa+na+nb<=l.length)(u1:((l.drop sa).take na).Pairwise (le κ))(u2:((l.drop (sa+na)).take nb).Pairwise (le κ))(hk:k<na)(hb:nb'<=nb)(hb1:1<=nb')
  (h1:∀x∈(l.drop sa).take k,∀y∈(l.drop (sa+na)).take nb,le κ x y) (h2:∀x∈(l.drop sa).take na,∀y∈((l.drop (sa+na)).take nb).drop nb',le κ x y)
  (pm:M.Perm (((l.drop (sa+k)).take (na-k))++((l.drop (sa+na)).take nb'))) (sm:M.Pairwise (le κ)) :
  (l.take (sa+k)++M++l.drop (sa+k+M.length)).Perm l/\(((l.take (sa+k)++M++l.drop (sa+k+M.length)).drop sa).take (na+nb)).Pairwise (le κ)/\M.length=na-k+nb':=by
 have lenM:M.length=na-k+nb':=by rw[pm.length_eq];simp;omega
 have eA:(l.drop sa).take na=(l.drop sa).take k++(l.drop (sa+k)).take (na-k):=by
  rw[show(l.drop (sa+k))=(l.drop sa).drop k by rw[List.drop_drop],<-List.take_add,show k+(na-k)=na by omega]
 have eB:(l.drop (sa+na)).take nb=(l.drop (sa+na)).take nb'++((l.drop (sa+na)).take nb).drop nb':=by
  have:=(List.take_append_drop nb' ((l.drop (sa+na)).take nb)).symm
  rwa [List.take_take,Nat.min_eq_left hb]at this
 have eY:((l.drop (sa+na)).take nb).drop nb'=(l.drop (sa+na+nb')).take (nb-nb'):=by
  rw[List.drop_take,List.drop_drop]
 have hm:sa+k+M.length=sa+na+nb':=by omega
 refine⟨?_,?_,lenM⟩
 ·have e:l=l.take (sa+k)++((l.drop (sa+k)).take (na-k)++(l.drop (sa+na)).take nb')++l.drop (sa+k+M.length):=by
   have e1:=(List.take_append_drop (sa+k) l).symm;have e2:=(List.take_append_drop (na-k) (l.drop (sa+k))).symm;rw[List.drop_drop,show sa+k+(na-k)=sa+na by omega]at e2;have e3:=(List.take_append_drop nb' (l.drop (sa+na))).symm;rw[List.drop_drop]at e3;rw[hm]
   conv=>lhs;rw[e1,e2,e3]
   simp
  conv=>rhs;rw[e]
  exact(List.Perm.append_left _ pm).append_right _
 ·have dp:(l.take (sa+k)++M++l.drop (sa+k+M.length)).drop sa=(l.drop sa).take k++M++l.drop (sa+k+M.length):=by
   rw[List.append_assoc,List.drop_append_of_le_length (by simp;omega),List.drop_take,show sa+k-sa=k by omega,List.append_assoc]
  rw[dp,List.take_append,List.take_of_length_le (by simp;omega)];have l3:(((l.drop sa).take k)++M).length=na+nb':=by simp;omega
  rw[l3,hm,show na+nb-(na+nb')=nb-nb' by omega,<-eY];rw[eA]at u1 h2;rw[eB]at u2 h1;have u1':=List.pairwise_append.mp u1;have u2':=List.pairwise_append.mp u2;have inM:∀x∈M,x∈(l.drop (sa+k)).take (na-k)\/x∈(l.drop (sa+na)).take nb':=λx hx=>List.mem_append.mp (pm.mem_iff.mp hx);refine List.pairwise_append.mpr ⟨List.pairwise_append.mpr ⟨u1'.1,sm,λx hx y hy=>?_⟩,u2'.2.1,λx hx y hy=>?_⟩
  ·rcases inM y hy with h|h
   ·exact u1'.2.2 x hx y h
   ·exact h1 x hx y (List.mem_append_left _ h)
  ·rcases List.mem_append.mp hx with hx|hx
   ·exact h2 x (List.mem_append_left _ hx) y hy
   ·rcases inM x hx with h|h
    ·exact h2 x (List.mem_append_right _ h) y hy
    ·exact u2'.2.2 x h y hy
end
end SQ
namespace SQ
open PySem PyProof.Rows
set_option autoImplicit false
section
variable {prog:Program}{w:World}{A:Around}{E:Value->Shared->Prop}{s:Shared}{κ:KeyKind}{kd:SortKind}{a₀:Array Keyed}
theorem zwe{st z:SortSt}{Q:PUnit->SortSt->Prop}(h:Q ⟨⟩ z):wpS (model prog w) A E s (set z:StateT SortSt Sem PUnit) Q st:=by
 unfold wpS;rw[StateT.run_set];exact wpAny_pure ⟨rfl,h⟩
theorem zaq{xs:Array Keyed}{lo n:Nat}{x:Keyed}(h:x∈(xs.toList.drop lo).take n):∃i,i<n/\xs[lo+i]?=some x:=by
 obtain⟨i,hi⟩:=List.mem_iff_getElem?.mp h;have:i<n:=by
  have:=(List.getElem?_eq_some_iff.mp hi).1;rw[List.length_take]at this;omega
 exact⟨i,this,by rw[<-zgu this];exact hi⟩
theorem Up.join{xs:Array Keyed}{lo m n:Nat}(h1:Up κ xs lo m)(h2:Up κ xs (lo+m) n)(hm:1<=m)(c:κ.kle (KK κ xs (lo+m-1)) (KK κ xs (lo+m))):Up κ xs lo (m+n):=λi j a b d=>by
 by_cases ej:j<lo+m
 ·exact h1 i j a b ej
 ·by_cases ei:lo+m<=i
  ·exact h2 i j ei b (by omega)
  ·exact KeyOrd.kle_trans (h1 i (lo+m-1) a (by omega) (by omega)) (KeyOrd.kle_trans c (h2 (lo+m) j (Nat.le_refl _) (by omega) (by omega)))
theorem zmu{st:SortSt}{i sa na nb pw pw2:Nat}{Q:Bool->SortSt->Prop}(L:km prog w A s κ kd)(h0:KeysOf κ a₀)(g:SG kd a₀ st)(e1:(pendingOf st)[i]?=some (sa,na,pw))(e2:(pendingOf st)[i+1]?=some (sa+na,nb,pw2))(hs:sa+na+nb<=a₀.size)(na1:1<=na)(nb1:1<=nb)
  (u1:Up κ (arrOf st) sa na) (u2:Up κ (arrOf st) (sa+na) nb)
  (q:∀st',SG kd a₀ st'->pendingOf st'=((pendingOf st).setIfInBounds i (sa,na+nb,pw)).eraseIdxIfInBounds (i+1)->(∀k,(k<sa\/sa+na+nb<=k)->(arrOf st')[k]?=(arrOf st)[k]?)->Up κ (arrOf st') sa (na+nb)->Q true st'):wpS (model prog w) A E s (mergeAt' i) Q st:=by
 have sz:=g.sz;have ak:=g.allK h0;refine wpS_bind (wpS_get ?_);show wpS _ _ _ _ (match ((pendingOf st)[i]?,(pendingOf st)[i+1]?) with |(some (sa,na,power),some (sb,nb,_))=>_|_=>_) _ _;rw[e1,e2];dsimp only;obtain⟨b0,eb0,mb0⟩:=zfa (xs:=arrOf st) (i:=sa+na) (by omega);obtain⟨pa,epa,mpa⟩:=zfa (xs:=arrOf st) (i:=sa+na-1) (by omega);refine wpS_bind (zwe ?_);show wpS _ _ _ _ _ _ (SortSt.mk' (kindOf st) (arrOf st) (((pendingOf st).setIfInBounds i (sa,na+nb,pw)).eraseIdxIfInBounds (i+1)) (gallopOf st) (failedOf st));obtain⟨z,ez⟩:∃z,z=SortSt.mk' (kindOf st) (arrOf st) (((pendingOf st).setIfInBounds i (sa,na+nb,pw)).eraseIdxIfInBounds (i+1)) (gallopOf st) (failedOf st):=⟨_,rfl⟩
 rw[<-ez];have gz:SG kd a₀ z:=by rw[ez];exact⟨g.perm,g.kind,g.fail⟩
 have az:arrOf z=arrOf st:=by rw[ez]
 have pz:pendingOf z=((pendingOf st).setIfInBounds i (sa,na+nb,pw)).eraseIdxIfInBounds (i+1):=by rw[ez]
 have s1:Srt κ ((arrOf st).extract sa (sa+na)):=by
  show List.Pairwise _ _;rw[zgv,show sa+na-sa=na by omega];exact(zfs (by omega)).mp u1
 have mo1:∀k,∀i j,i<=j->j<na->byd κ false k (arrOf st) sa j=true->byd κ false k (arrOf st) sa i=true:=λk i j a b c=>by
  unfold byd at c ⊢;simp only[Bool.false_eq_true,if_false,Bool.not_eq_true']at c ⊢;exact KeyOrd.kle_trans (u1 (sa+i) (sa+j) (by omega) (by omega) (by omega)) c
 have mo2:∀k,∀i j,i<=j->j<nb->byd κ true k (arrOf st) (sa+na) j=true->byd κ true k (arrOf st) (sa+na) i=true:=λk i j a b c=>by
  unfold byd at c ⊢;simp only[if_true]at c ⊢;exact KeyOrd.klt_of_kle_of_klt (u2 (sa+na+i) (sa+na+j) (by omega) (by omega) (by omega)) c
 refine wpS_bind (xu eb0 (wpS_bind (jh L gz.kind (ak.ky sa na (by omega)) (ak _ mb0) (by omega) (mo1 _) λk hk1 hk2 hk3=>?_)));dsimp only;refine yi (λc=>?_) (λc=>?_)
 ·have kn0:na-k=0:=by simpa using c
  have kn:k=na:=by omega
  subst kn;refine wpS_pure (q z gz pz (λj _=>by rw[az]) ?_);rw[az];refine Up.join u1 u2 na1 ?_;have:=hk2 (k-1) (by omega);rw[zbu (by rw[show sa+(k-1)=sa+k-1 by omega];exact epa)]at this;rw[qx epa,qx eb0];simpa[KeyOrd.kle]using this
 have kn0:¬ (na-k=0):=by simpa using c
 have kn:k<na:=by omega
 rw[show sa+k+(na-k)-1=sa+na-1 by omega];refine wpS_bind (xu epa (wpS_bind (jh L gz.kind (ak.ky (sa+na) nb (by omega)) (ak _ mpa) (by omega) (mo2 _) λnb' g1 g3 g4=>?_)));dsimp only;refine yi (λc=>?_) (λc=>?_)
 ·have kn:nb'=0:=by simpa using c
  subst kn;refine wpS_pure (q z gz pz (λj _=>by rw[az]) ?_);rw[az];refine Up.join u1 u2 na1 ?_;have:=g4 0 (Nat.le_refl _) (by omega);rw[zbv (by rw[Nat.add_zero];exact eb0)]at this;rw[qx epa,qx eb0];exact this
 have nb00:¬ (nb'=0):=by simpa using c
 have nb0:1<=nb':=by omega
 have tX:((arrOf st).extract (sa+k) (sa+na)).toList=((arrOf st).toList.drop (sa+k)).take (na-k):=by rw[zgv,show sa+na-(sa+k)=na-k by omega]
 have tY:((arrOf st).extract (sa+na) (sa+na+nb')).toList=((arrOf st).toList.drop (sa+na)).take nb':=by rw[zgv,show sa+na+nb' - (sa+na)=nb' by omega]
 have kX:AllK κ ((arrOf st).extract (sa+k) (sa+na)):=λp hp=>ak p (by rw[tX]at hp;exact List.mem_of_mem_drop (List.mem_of_mem_take hp));have kY:AllK κ ((arrOf st).extract (sa+na) (sa+na+nb')):=λp hp=>ak p (by rw[tY]at hp;exact List.mem_of_mem_drop (List.mem_of_mem_take hp));have sX:Srt κ ((arrOf st).extract (sa+k) (sa+na)):=by
  show List.Pairwise _ _;rw[tX];exact(zfs (by omega)).mp λi j a b d=>u1 i j (by omega) b (by omega)
 have sY:Srt κ ((arrOf st).extract (sa+na) (sa+na+nb')):=by
  show List.Pairwise _ _;rw[tY];exact(zfs (by omega)).mp λi j a b d=>u2 i j a b (by omega)
 have zX:((arrOf st).extract (sa+k) (sa+na)).size=na-k:=by rw[Array.size_extract];omega
 have zY:((arrOf st).extract (sa+na) (sa+na+nb')).size=nb':=by rw[Array.size_extract];omega
 have oX:1<=((arrOf st).extract (sa+k) (sa+na)).size:=by rw[zX];omega
 have oY:1<=((arrOf st).extract (sa+na) (sa+na+nb')).size:=by rw[zY];omega
 have hl:∀x∈((arrOf st).extract (sa+na) (sa+na+nb')).toList,∀y,((arrOf st).extract (sa+k) (sa+na))[((arrOf st).extract (sa+k) (sa+na)).size-1]?=some y->le κ x y:=λx hx y hy=>by
  rw[tY]at hx;obtain⟨i,hi,ei⟩:=zaq hx;have ey:y=pa:=by
   rw[<-Array.getElem?_toList,tX,zX,zgu (by omega),show sa+k+(na-k-1)=sa+na-1 by omega,epa]at hy;exact(Option.some.inj hy).symm
  subst ey;have:=g3 i hi;rw[zbv ei]at this;exact KeyOrd.kle_of_klt this
 have hf:∀p,((arrOf st).extract (sa+na) (sa+na+nb'))[0]?=some p->∀y∈((arrOf st).extract (sa+k) (sa+na)).toList,le κ p y:=λp hp y hy=>by
  have ep:p=b0:=by
   rw[<-Array.getElem?_toList,tY,zgu (by omega),Nat.add_zero,eb0]at hp;exact(Option.some.inj hp).symm
  subst ep;rw[tX]at hy;obtain⟨i,hi,ei⟩:=zaq hy;have:=hk3 (k+i) (by omega) (by omega);rw[zbu (by rw[show sa+(k+i)=sa+k+i by omega];exact ei)]at this;exact KeyOrd.kle_of_klt (by simpa[KeyOrd.klt]using this)
 have fin:∀(r:Array Keyed) (z2:SortSt),Gm z z2->Mg κ ((arrOf st).extract (sa+k) (sa+na)) ((arrOf st).extract (sa+na) (sa+na+nb')) r ->
   Q (failedOf (SortSt.mk' (kindOf z2) (List.foldl (λa x=>a.setIfInBounds (sa+k+x.snd) x.fst) (arrOf z2) r.toList.zipIdx) (pendingOf z2) (gallopOf z2) (failedOf z2))).isNone (SortSt.mk' (kindOf z2) (List.foldl (λa x=>a.setIfInBounds (sa+k+x.snd) x.fst) (arrOf z2) r.toList.zipIdx) (pendingOf z2) (gallopOf z2) (failedOf z2)):=by
  intro r z2 gm hr;obtain⟨pm,sm⟩:=hr;rw[tX,tY]at pm;have ml:=zjs (κ:=κ) (l:=(arrOf st).toList) (sa:=sa) (na:=na) (nb:=nb) (k:=k) (nb':=nb') (M:=r.toList) (by simpa using (by omega:sa+na+nb<=(arrOf st).size)) ((zfs (by omega)).mp u1) ((zfs (by omega)).mp u2) kn g1 nb0
   (λx hx y hy=>by
    obtain⟨i,hi,ei⟩:=zaq hx;obtain⟨j,hj,ej⟩:=zaq hy;have:=hk2 i hi;rw[zbu ei]at this;refine le_trans (show le κ x b0 from by simpa[le,KeyOrd.kle]using this) ?_;have:=u2 (sa+na) (sa+na+j) (Nat.le_refl _) (by omega) (by omega);rw[qx eb0,qx ej]at this;exact this)
   (λx hx y hy=>by
    obtain⟨i,hi,ei⟩:=zaq hx;rw[List.drop_take,List.drop_drop]at hy;obtain⟨j,hj,ej⟩:=zaq hy;have h5:=u1 (sa+i) (sa+na-1) (by omega) (by omega) (by omega);rw[qx ei,qx epa]at h5;have:=g4 (nb'+j) (by omega) (by omega);rw[zbv (by rw[show sa+na+(nb'+j)=sa+na+nb'+j by omega];exact ej)]at this;exact le_trans (show le κ x pa from h5) this) pm sm
  obtain⟨m1,m2,m3⟩:=ml;have a2:arrOf z2=arrOf st:=gm.a.trans az;have wl:=zk7 (sa+k) r.toList 0 (arrOf st) (by rw[m3];omega);rw[Nat.add_zero]at wl;rw[a2];generalize (List.foldl (λa x=>a.setIfInBounds (sa+k+x.snd) x.fst) (arrOf st) r.toList.zipIdx)=V at wl ⊢;have szw:V.size=a₀.size:=by rw[<-Array.length_toList,wl,m1.length_eq,Array.length_toList,sz]
  have nofail:failedOf z2=none:=gm.f.trans gz.fail;show Q (failedOf z2).isNone _;rw[nofail];refine q _ ⟨?_,gm.k.trans gz.kind,rfl⟩ (gm.p.trans pz) (λj hj=>?_) ?_
  ·show Array.Perm V _;rw[Array.perm_iff_toList_perm,wl];exact m1.trans (Array.perm_iff_toList_perm.mp g.perm)
  ·show V[j]?=_;rw[<-Array.getElem?_toList,wl,<-Array.getElem?_toList];rcases hj with hj|hj
   ·rw[List.append_assoc,List.getElem?_append_left (by simp;omega),List.getElem?_take_of_lt (by omega)]
   ·have l1:(List.take (sa+k) (arrOf st).toList++r.toList).length=sa+k+r.toList.length:=by simp;omega
    rw[List.getElem?_append_right (by rw[l1,m3];omega),l1,List.getElem?_drop,show sa+k+r.toList.length+(j-(sa+k+r.toList.length))=j by rw[m3];omega]
  ·refine(zfs (by show sa+(na+nb)<=V.size;omega)).mpr ?_;show List.Pairwise _ (List.take _ (List.drop _ V.toList));rw[wl];exact m2
 refine yi (λ_=>?_) (λ_=>?_)
 ·exact wpS_bind (zms L gz.kind kX kY sX sY oX oY hl hf λr z2 gm hr=>wpS_bind (wpS_modify (wpS_bind (wpS_get (wpS_pure (fin r z2 gm hr))))))
 ·exact wpS_bind (zmt L gz.kind kX kY sX sY oX oY hl hf λr z2 gm hr=>wpS_bind (wpS_modify (wpS_bind (wpS_get (wpS_pure (fin r z2 gm hr))))))
end
end SQ
namespace SQ
open PySem PyProof.Rows
set_option autoImplicit false
def Cov(κ:KeyKind)(xs:Array Keyed):Nat->List (Nat×Nat×Nat)->Nat->Prop
 |at_,[],hi=>at_=hi
 |at_,(b,n,_)::r,hi=>b=at_/\1<=n/\Up κ xs at_ n/\Cov κ xs (at_+n) r hi
section
variable {κ:KeyKind}
theorem Cov.le{xs:Array Keyed}:∀{l:List (Nat×Nat×Nat)}{at_ hi:Nat},Cov κ xs at_ l hi->at_+l.length<=hi
 |[],at_,hi,h=>by have:at_=hi:=h;simp;omega
 |(b,n,p)::r,at_,hi,h=>by
  obtain⟨_,h1,_,h2⟩:=h;have:=h2.le;simp only[List.length_cons];omega
theorem Up.congr{xs ys:Array Keyed}{lo n:Nat}(h:∀k,lo<=k->k<lo+n->ys[k]?=xs[k]?)(u:Up κ xs lo n):Up κ ys lo n:=λi j a b c=>by
 rw[KK_congr (h i a (by omega)),KK_congr (h j (by omega) c)];exact u i j a b c
theorem Cov.congr{xs ys:Array Keyed}:∀{l:List (Nat×Nat×Nat)}{at_ hi:Nat},(∀k,at_<=k->k<hi->ys[k]?=xs[k]?)->Cov κ xs at_ l hi->Cov κ ys at_ l hi
 |[],_,_,_,h=>h
 |(b,n,p)::r,at_,hi,e,h=>by
  obtain⟨h0,h1,h2,h3⟩:=h;have:=h3.le;exact⟨h0,h1,Up.congr (λk a b=>e k a (by omega)) h2,h3.congr λk a b=>e k (by omega) b⟩
theorem Cov.push{xs:Array Keyed}{n pw:Nat}:∀{l:List (Nat×Nat×Nat)}{at_ hi:Nat},Cov κ xs at_ l hi->1<=n->Up κ xs hi n->Cov κ xs at_ (l ++ [(hi,n,pw)]) (hi+n)
 |[],at_,hi,h,hn,u=>by
  have e:at_=hi:=h;subst e;exact⟨rfl,hn,u,rfl⟩
 |(b,m,p)::r,at_,hi,h,hn,u=>⟨h.1,h.2.1,h.2.2.1,h.2.2.2.push hn u⟩
theorem Cov.modify{xs:Array Keyed}{f:Nat×Nat×Nat->Nat×Nat×Nat}(hf:∀t,(f t).1=t.1/\(f t).2.1=t.2.1):∀{l:List (Nat×Nat×Nat)}{at_ hi:Nat} (i:Nat),Cov κ xs at_ l hi->Cov κ xs at_ (l.modify i f) hi
 |[],_,_,i,h=>by simpa using h
 |(b,n,p)::r,at_,hi,0,h=>by
  rw[List.modify_zero_cons];obtain⟨h1,h2⟩:=hf (b,n,p);generalize f (b,n,p)=t at h1 h2 ⊢;obtain⟨x,y,z⟩:=t;simp only at h1 h2;subst h1 h2;exact h
 |(b,n,p)::r,at_,hi,i+1,h=>by
  rw[List.modify_succ_cons];exact⟨h.1,h.2.1,h.2.2.1,h.2.2.2.modify hf i⟩
theorem Cov.pair{xs:Array Keyed}:∀{l:List (Nat×Nat×Nat)}{at_ hi:Nat} (i:Nat),Cov κ xs at_ l hi->i+1<l.length->∃sa na nb pw pw2,l[i]?=some (sa,na,pw)/\l[i+1]?=some (sa+na,nb,pw2)/\at_<=sa/\sa+na+nb<=hi/\1<=na/\1<=nb/\Up κ xs sa na/\Up κ xs (sa+na) nb /\
   ∀ys:Array Keyed,(∀k,(k<sa\/sa+na+nb<=k)->ys[k]?=xs[k]?)->Up κ ys sa (na+nb)->Cov κ ys at_ ((l.set i (sa,na+nb,pw)).eraseIdx (i+1)) hi
 |[],_,_,i,_,h=>by simp at h
 |[_],_,_,i,_,h=>by simp at h
 |(b,n,p)::(b2,n2,p2)::r,at_,hi,0,h,_=>by
  obtain⟨rfl,h1,h2,rfl,h3,h4,h5⟩:=h;have:=h5.le;refine⟨b,n,n2,p,p2,rfl,rfl,Nat.le_refl _,by omega,h1,h3,h2,h4,λys e u=>?_⟩;refine⟨rfl,by omega,u,?_⟩;rw[show b+(n+n2)=b+n+n2 by omega];exact h5.congr λk a _=>e k (.inr a)
 |(b,n,p)::t::r,at_,hi,i+1,h,hl=>by
  obtain⟨rfl,h1,h2,h3⟩:=h;obtain⟨sa,na,nb,pw,pw2,e1,e2,q0,q1,q2,q3,q4,q5,q6⟩:=h3.pair i (by simpa using hl);refine⟨sa,na,nb,pw,pw2,by simpa using e1,by simpa using e2,by omega,q1,q2,q3,q4,q5,λys e u=>?_⟩;rw[List.set_cons_succ,List.eraseIdx_cons_succ];exact⟨rfl,h1,Up.congr (λk a b=>e k (.inl (by omega))) h2,q6 ys e u⟩
end
section
variable {prog:Program}{w:World}{A:Around}{E:Value->Shared->Prop}{s:Shared}{κ:KeyKind}{kd:SortKind}{a₀:Array Keyed}
theorem za7{st:SortSt}{i hi:Nat}{Q:Bool->SortSt->Prop}(L:km prog w A s κ kd)(h0:KeysOf κ a₀)(g:SG kd a₀ st)(c:Cov κ (arrOf st) 0 (pendingOf st).toList hi)(hh:hi<=a₀.size)(hi1:i+1<(pendingOf st).size)
  (q:∀st',SG kd a₀ st'->Cov κ (arrOf st') 0 (pendingOf st').toList hi->(∀k,hi<=k->(arrOf st')[k]?=(arrOf st)[k]?)->(pendingOf st').size+1=(pendingOf st).size->Q true st'):wpS (model prog w) A E s (mergeAt' i) Q st:=by
 refine L2.gg λG zk=>?_;obtain⟨sa,na,nb,pw,pw2,e1,e2,q0,q1,q2,q3,q4,q5,q6⟩:=c.pair i (by simpa using hi1);refine zk ?_;clear zk;refine zmu L h0 g (by simpa using e1) (by simpa using e2) (by omega) q2 q3 q4 q5 λst' g' p' o' u'=>q st' g' ?_ (λk hk=>o' k (.inr (by omega))) ?_
 ·rw[p'];have:=q6 (arrOf st') o' u';simpa using this
 ·rw[p',<-Array.length_toList,Array.toList_eraseIdxIfInBounds,Array.toList_setIfInBounds,List.length_eraseIdx,List.length_set,Array.length_toList,if_pos hi1];omega
theorem zjt{st:SortSt}{Q:Unit->SortSt->Prop}(L:km prog w A s κ kd)(h0:KeysOf κ a₀)(g:SG kd a₀ st)(hp:pendingOf st = #[])(h2:2<=a₀.size)(q:∀st',SG kd a₀ st'->SortedToK κ (arrOf st') a₀.size->Q () st'):wpS (model prog w) A E s sortRuns' Q st:=by
 rw[sortRuns'_eq];refine wpS_bind (wpS_get ?_);dsimp only;simp only[g.sz];generalize minRun' a₀.size a₀.size 0=mr;refine wpS_bind (wpS_mono (wpS_forRange (I:=λx c z=>∃lo,c=(none,lo)/\SG kd a₀ z/\Cov κ (arrOf z) 0 (pendingOf z).toList lo/\lo<=a₀.size/\x<=lo)
  (Q:=λc z=>c=(none,a₀.size)/\SG kd a₀ z/\Cov κ (arrOf z) 0 (pendingOf z).toList a₀.size) (λx c z hx1 hx2 h=>?_) (λc z h=>?_) ⟨0,rfl,g,by rw[hp];rfl,by omega,by omega⟩) (λc z h=>?_))
 ·obtain⟨lo,rfl,gz,cv,l1,l2⟩:=h;dsimp only;refine yi (λc=>?_) (λc=>?_)
  ·have:lo=a₀.size:=by omega
   subst this;exact wpS_pure ⟨rfl,gz,cv⟩
  refine wpS_bind (zd6 L h0 gz (by omega) (by omega) λk z1 g1 mv k1 k2 u=>?_);have cv1:Cov κ (arrOf z1) 0 (pendingOf z1).toList lo:=by rw[mv.pend];exact cv.congr λj _ hj=>mv.out j (.inl hj)
  dsimp only;refine yi (λcm=>?_) (λcm=>?_)
  ·refine wpS_bind (wpS_lift (wpAny_rule ⟨rfl,?_⟩));refine wpS_bind (zhy L h0 g1 (by omega) (by omega) u λz2 g2 mv2 u2=>?_);rw[if_neg (by decide)];have cv2:Cov κ (arrOf z2) 0 (pendingOf z2).toList lo:=by rw[mv2.pend];exact cv1.congr λj _ hj=>mv2.out j (.inl hj)
   refine wpS_bind (wpS_get ?_)
   cases hb:(pendingOf z2).back? with
   |none=>
    dsimp only;refine wpS_bind (wpS_modify (wpS_pure ⟨lo+(min (a₀.size-lo) mr),rfl,⟨g2.perm,g2.kind,g2.fail⟩,?_,by omega,by omega⟩));show Cov κ (arrOf z2) 0 ((pendingOf z2).push (lo,min (a₀.size-lo) mr,0)).toList (lo+(min (a₀.size-lo) mr));rw[Array.toList_push];exact cv2.push (by omega) u2
   |some t=>
    obtain⟨s1,n1,pp⟩:=t;dsimp only;refine wpS_bind (wpS_mono (wpS_forRange (I:=λy c z'=>c=(none,())/\SG kd a₀ z'/\Cov κ (arrOf z') 0 (pendingOf z').toList lo/\Up κ (arrOf z') lo (min (a₀.size-lo) mr))
     (Q:=λc z'=>c=(none,())/\SG kd a₀ z'/\Cov κ (arrOf z') 0 (pendingOf z').toList lo/\Up κ (arrOf z') lo (min (a₀.size-lo) mr)) (λy c z' hy1 hy2 h=>?_) (λc z' h=>h) ⟨rfl,g2,cv2,u2⟩) (λc z' h=>?_))
    ·obtain⟨rfl,g',c',u'⟩:=h;refine wpS_bind (wpS_get ?_)
     cases e:(if (pendingOf z').size > 1 then (pendingOf z')[(pendingOf z').size-2]? else none) with
     |none=>
      dsimp only;exact wpS_pure ⟨rfl,g',c',u'⟩
     |some t=>
      obtain⟨t1,t2,older⟩:=t;dsimp only;have big:(pendingOf z').size > 1:=by
       by_cases z:(pendingOf z').size > 1
       ·exact z
       ·rw[if_neg z]at e;cases e
      refine yi (λ_=>wpS_pure ⟨rfl,g',c',u'⟩) (λ_=>wpS_bind (za7 L h0 g' c' (by omega) (by omega) λz3 g3 c3 o3 _=>?_));rw[if_neg (by decide)];exact wpS_pure ⟨rfl,g3,c3,Up.congr (λk a _=>o3 k a) u'⟩
    ·obtain⟨rfl,g',c',u'⟩:=h;dsimp only;refine wpS_bind (wpS_modify (wpS_bind (wpS_modify (wpS_pure ⟨lo+(min (a₀.size-lo) mr),rfl,⟨g'.perm,g'.kind,g'.fail⟩,?_,by omega,by omega⟩))));show Cov κ (arrOf z') 0 (((pendingOf z').modify ((pendingOf z').size-1) _).push (lo,min (a₀.size-lo) mr,0)).toList (lo+(min (a₀.size-lo) mr));rw[Array.toList_push,Array.toList_modify];refine Cov.push (Cov.modify ?_ _ c') (by omega) u';exact λt=>⟨rfl,rfl⟩
  ·refine wpS_bind (wpS_get ?_)
   cases hb:(pendingOf z1).back? with
   |none=>
    dsimp only;refine wpS_bind (wpS_modify (wpS_pure ⟨lo+(k),rfl,⟨g1.perm,g1.kind,g1.fail⟩,?_,by omega,by omega⟩));show Cov κ (arrOf z1) 0 ((pendingOf z1).push (lo,k,0)).toList (lo+(k));rw[Array.toList_push];exact cv1.push k1 u
   |some t=>
    obtain⟨s1,n1,pp⟩:=t;dsimp only;refine wpS_bind (wpS_mono (wpS_forRange (I:=λy c z'=>c=(none,())/\SG kd a₀ z'/\Cov κ (arrOf z') 0 (pendingOf z').toList lo/\Up κ (arrOf z') lo (k))
     (Q:=λc z'=>c=(none,())/\SG kd a₀ z'/\Cov κ (arrOf z') 0 (pendingOf z').toList lo/\Up κ (arrOf z') lo (k)) (λy c z' hy1 hy2 h=>?_) (λc z' h=>h) ⟨rfl,g1,cv1,u⟩) (λc z' h=>?_))
    ·obtain⟨rfl,g',c',u'⟩:=h;refine wpS_bind (wpS_get ?_)
     cases e:(if (pendingOf z').size > 1 then (pendingOf z')[(pendingOf z').size-2]? else none) with
     |none=>
      dsimp only;exact wpS_pure ⟨rfl,g',c',u'⟩
     |some t=>
      obtain⟨t1,t2,older⟩:=t;dsimp only;have big:(pendingOf z').size > 1:=by
       by_cases z:(pendingOf z').size > 1
       ·exact z
       ·rw[if_neg z]at e;cases e
      refine yi (λ_=>wpS_pure ⟨rfl,g',c',u'⟩) (λ_=>wpS_bind (za7 L h0 g' c' (by omega) (by omega) λz3 g3 c3 o3 _=>?_));rw[if_neg (by decide)];exact wpS_pure ⟨rfl,g3,c3,Up.congr (λk a _=>o3 k a) u'⟩
    ·obtain⟨rfl,g',c',u'⟩:=h;dsimp only;refine wpS_bind (wpS_modify (wpS_bind (wpS_modify (wpS_pure ⟨lo+(k),rfl,⟨g'.perm,g'.kind,g'.fail⟩,?_,by omega,by omega⟩))));show Cov κ (arrOf z') 0 (((pendingOf z').modify ((pendingOf z').size-1) _).push (lo,k,0)).toList (lo+(k));rw[Array.toList_push,Array.toList_modify];refine Cov.push (Cov.modify ?_ _ c') k1 u';exact λt=>⟨rfl,rfl⟩
 ·obtain⟨lo,rfl,gz,cv,l1,l2⟩:=h;have:lo=a₀.size:=by omega
  subst this;exact⟨rfl,gz,cv⟩
 ·obtain⟨rfl,gz,cv⟩:=h;dsimp only
  refine wpS_bind (wpS_mono (wpS_forRange (I:=λx c z=>c=(none,())/\SG kd a₀ z/\Cov κ (arrOf z) 0 (pendingOf z).toList a₀.size/\(pendingOf z).size+x<=a₀.size+1)
   (Q:=λc z=>c=(none,())/\SG kd a₀ z/\Cov κ (arrOf z) 0 (pendingOf z).toList a₀.size/\(pendingOf z).size<=1) (λx c z hx1 hx2 h=>?_) (λc z h=>?_) ⟨rfl,gz,cv,by have:=cv.le;simp only[Array.length_toList]at this;omega⟩) (λc z h=>?_))
  ·obtain⟨rfl,gz,cv,hz⟩:=h;refine wpS_bind (wpS_get ?_);refine yi (λc=>wpS_pure ⟨rfl,gz,cv,c⟩) (λc=>?_);refine wpS_bind (za7 L h0 gz cv (Nat.le_refl _) ?_ λz2 g2 c2 _ p2=>?_)
   ·repeat' split
    all_goals omega
   ·rw[if_neg (by decide)];exact wpS_pure ⟨rfl,g2,c2,by omega⟩
  ·obtain⟨rfl,gz,cv,hz⟩:=h;exact⟨rfl,gz,cv,by omega⟩
  ·obtain⟨rfl,gz,cv,hz⟩:=h;refine wpS_pure (q z gz λi j a b=>?_)
   have:∀l:List (Nat×Nat×Nat),l.length<=1->Cov κ (arrOf z) 0 l a₀.size->Up κ (arrOf z) 0 a₀.size:=by
    intro l hl c
    match l,hl,c with
    |[],_,c=>have:0=a₀.size:=c;omega
    |[(b,n,p)],_,c=>
     obtain⟨_,_,u,e⟩:=c;have e':0+n=a₀.size:=e;rw[Nat.zero_add]at e';rw[<-e'];exact u
   exact this _ (by simpa using hz) cv i j (Nat.zero_le _) a (by omega)
end
end SQ
namespace SQ
open PySem PyProof.Rows
set_option autoImplicit false
section
variable {prog:Program}{w:World}{A:Around}{E:Value->Shared->Prop}{s:Shared}
theorem zju{κ:KeyKind}{kd:SortKind}{a:Addr}{vs:List Value}{n:Nat}{P:Fin->Shared->Prop}(ho:s.heap.get? a=some (seqObj "list" vs.toArray n))(hz:vs.length<=sizeLine)
  (L:∀h':Heap,(∀b o,b≠a->s.heap.get? b=some o->h'.get? b=some o)->km prog w A { s with heap:=h' } κ kd) (h0:KeysOf κ (pairsOf vs))
  (hkk:2<=vs.length->∀(h':Heap) (Q:SortKind->Shared->Prop),(∀b o,b≠a->s.heap.get? b=some o->h'.get? b=some o)->Q kd { s with heap:=h' }->wpAny (model prog w) A (keyKind' vs.toArray) Q E { s with heap:=h' })
  (h:∀out:Array Keyed,out.Perm (pairsOf vs)->SortedToK κ out (pairsOf vs).size->P (.done (.ret .none)) { s with heap:=sortedHeap s.heap a vs (out.map (·.2)) }) :
  wpAny (model prog w) A (Builtin.«list.sort» ⟨[.ref a],[]⟩) P E s:=by
 rw[list_sort_plain];have la:a<s.heap.objs.size:=Heap.lt_size ho;refine wpAny_bind (listItems_at ho rfl ?_);refine wpAny_bind (listUpdate_at ho rfl ?_ (by simpa using hz) (Nat.zero_le _));obtain⟨e1,g1⟩:∃e1,(s.heap.update a (Obj.mapSeq λ_=>#[])).get? a=some (seqObj "list" #[] e1):=⟨_,get?_update_seq ho (λ_=>#[])⟩
 refine wpAny_bind (seqEpoch_at g1 rfl ?_);refine wpAny_bind (wpAny_newTuple ?_ (by simpa using hz));refine wpAny_bind (wpAny_newList ?_ (Nat.zero_le _));refine wpAny_holding ?_;have g6:(((s.heap.update a (Obj.mapSeq λ_=>#[])).push (seqObj "tuple" vs.toArray 0)).push (seqObj "list" #[] 0)).get? a=some (seqObj "list" #[] e1):=Heap.get?_push_of_some _ (Heap.get?_push_of_some _ g1);have keep:∀b o,b≠a->s.heap.get? b=some o->(((s.heap.update a (Obj.mapSeq λ_=>#[])).push (seqObj "tuple" vs.toArray 0)).push (seqObj "list" #[] 0)).get? b=some o:=λb o nb e=>Heap.get?_push_of_some _ (Heap.get?_push_of_some _ (by rw[Heap.get?_update_ne _ _ _ _ nb];exact e));show wpAny (model prog w) A _ P E { s with heap:=((s.heap.update a (Obj.mapSeq λ_=>#[])).push (seqObj "tuple" vs.toArray 0)).push (seqObj "list" #[] 0) };dsimp only;have sz:vs.toArray.size=vs.length:=by simp
 by_cases c:vs.toArray.size<2
 ·rw[if_pos c,if_pos c];refine wpAny_bind (wpAny_pure ?_);rw[StateT.run_pure];refine wpAny_bind (wpAny_pure ?_);dsimp only;refine wpAny_bind (seqEpoch_at g6 rfl ?_);refine wpAny_bind (listUpdate_at g6 rfl ?_ (Nat.zero_le _) (by show(Array.map _ (pairsOf vs)).size<=_;rw[Array.size_map,pairsOf_size,sizeLine_eq];omega));simp only[bne_self_eq_false,Bool.false_eq_true,if_false];refine wpAny_pure (h (vs.toArray.zip vs.toArray) (Array.Perm.refl _) λi j hij hj=>?_);have:i=j:=by rw[pairsOf_size]at hj;omega
  subst this;exact KeyOrd.kle_refl _
 ·rw[if_neg c,if_neg c];refine wpAny_bind (hkk (by omega) _ _ keep ?_)
  refine wpAny_bind (wpAny_mono (zjt (κ:=κ) (kd:=kd) (a₀:=pairsOf vs) (st:=SortSt.mk' kd (vs.toArray.zip vs.toArray) #[] 7 none)
   (Q:=λ_ st'=>(arrOf st').Perm (pairsOf vs)/\failedOf st'=none/\SortedToK κ (arrOf st') (pairsOf vs).size) (L _ keep)
   h0 ⟨Array.Perm.refl _,rfl,rfl⟩ rfl (by rw[pairsOf_size];omega) λst' g' s'=>⟨g'.perm,g'.fail,s'⟩) ?_ λ_ _ e=>e)
  rintro ⟨⟨⟩,st'⟩ s' ⟨rfl,hp,hf,hs⟩;dsimp only;refine wpAny_bind (seqEpoch_at g6 rfl ?_);refine wpAny_bind (listUpdate_at g6 rfl ?_ (Nat.zero_le _) (by
   show(Array.map _ (arrOf st')).size<=_;rw[Array.size_map,hp.size_eq,pairsOf_size];omega))
  rw[hf];simp only[bne_self_eq_false,Bool.false_eq_true,if_false];exact wpAny_pure (h (arrOf st') hp hs)
theorem zft{Q:List Value->Shared->Prop}{l:Addr}{T:String}{o:Obj}{xs:Array Value}{n:Nat}(hT:T = "list" \/ T = "tuple")(ho:s.heap.get? l=some o)(hc:o.cls=.type T)(hd:o.data=.seq xs n)(hz:xs.size<=sizeLine)
  (q:Q xs.toList { s with heap:=(s.heap.push (seqObj "list" #[] 0)).update s.heap.objs.size (Obj.mapSeq (·++xs)) }):wpAny (model prog w) A (collect (.ref l)) Q E s:=by
 unfold collect;refine wpAny_bind (wpAny_runValue (codeAny_builtin PySem.F.entry_proto_collect ?_));rw[Around.under_plainId PySem.F.plain_proto_collect _];show wpAny _ A.in1 (newList [] >>= λz=>again (.builtin "list.__iadd__" ⟨[z,.ref l],[]⟩)) _ _ s;refine wpAny_bind (wpAny_newObj_type ?_);refine wpAny_pure ⟨plainId_quiet PySem.F.plain_list_iadd _,codeAny_builtin PySem.F.entry_list_iadd ?_⟩;rw[Around.under_plainId PySem.F.plain_list_iadd _];show wpAny _ A.in1 (Builtin.List.listExtendWith (.ref s.heap.objs.size) (.ref l) (.ref s.heap.objs.size)) _ _ _;have g1:(s.heap.push { cls:=.type "list",data:=.seq ([]:List Value).toArray }).get? s.heap.objs.size=some { cls:=.type "list",data:=.seq #[] 0 }:=Heap.get?_push_size _ rfl;have g2:=Heap.get?_update_self (Obj.mapSeq (·++xs)) g1 rfl;have fin:wpAny (model prog w) A (match Value.ref s.heap.objs.size with
   |Value.ref z=>do
    match (<-load z).data with
     |Data.seq ys _=>pure ys.toList
     |_=>unsupported "internal:collect"
   |_=>unsupported "internal:collect") Q E { s with heap:=(s.heap.push { cls:=.type "list",data:=.seq ([]:List Value).toArray }).update s.heap.objs.size (Obj.mapSeq (·++xs)) }:=by
  show wpAny _ A (load s.heap.objs.size >>= _) _ _ _;refine wpAny_bind (wpAny_load g2 (wpAny_pure ?_));show Q ((#[]:Array Value)++xs).toList _;rw[show((#[]:Array Value)++xs).toList=xs.toList by simp];exact q
 refine wpAny_mono (wpAny_extend_seq (hsz:=hz) (A:=A) (R:=λr s'=>r=.ok (.ret (.ref s.heap.objs.size))/\s' = { s with heap:=(s.heap.push { cls:=.type "list",data:=.seq ([]:List Value).toArray }).update s.heap.objs.size (Obj.mapSeq (·++xs)) })
  (s:={ s with heap:=s.heap.push { cls:=.type "list",data:=.seq ([]:List Value).toArray } }) _ l _ 0 hT g1 (Heap.get?_push_of_some _ ho) hc hd ⟨rfl,rfl⟩) (λf s' z=>?_) (λe s' z=>absurd z.1 (by simp))
 cases f with
 |done f=>
  obtain⟨e,rfl⟩:=z
  cases e;exact fin
 |again c'=>exact⟨z.1,codeAny_mono z.2 λr s2 y=>by obtain⟨rfl,rfl⟩:=y;exact fin⟩
theorem zk8(A:Around):A.in1.in1.units<=A.units+8:=by show A.units+1+1<=_;omega
theorem zh2{κ:KeyKind}{kd:SortKind}{l:Addr}{T:String}{o:Obj}{vs:List Value}{n:Nat}{Q:Value->Shared->Prop}(hT:T = "list" \/ T = "tuple")(ho:s.heap.get? l=some o)(hc:o.cls=.type T)(hd:o.data=.seq vs.toArray n)(hz:vs.length<=sizeLine)
  (L:∀(A':Around) (h':Heap),A'.units<=A.units+8->(∀b o,s.heap.get? b=some o->h'.get? b=some o)->km prog w A' { s with heap:=h' } κ kd) (h0:KeysOf κ (pairsOf vs))
  (hkk:2<=vs.length->∀(A':Around) (E':Value->Shared->Prop) (h':Heap) (Q:SortKind->Shared->Prop),(∀b o,s.heap.get? b=some o->h'.get? b=some o)->Q kd { s with heap:=h' }->wpAny (model prog w) A' (keyKind' vs.toArray) Q E' { s with heap:=h' })
  (h:∀(out:Array Keyed) (h':Heap) (r:Addr) (e:Nat),out.Perm (pairsOf vs)->SortedToK κ out (pairsOf vs).size->s.heap.objs.size<=r->h'.get? r=some (seqObj "list" (out.map (·.2)) e)->(∀b o,s.heap.get? b=some o->h'.get? b=some o)->Q (.ref r) { s with heap:=h' }) :
  wpAny (model prog w) A (call (.builtin "sorted") [.ref l]) Q E s:=by
 refine Calls.call_function_entry kind_sorted plain_sorted entry_sorted (args_sorted1 _) ?_;unfold Builtin.«sorted»;refine wpAny_bind (m:=checkCount "sorted" 1 1 _) (wpAny_pure ?_);refine wpAny_bind (zft hT ho hc hd (by simpa using hz) ?_);rw[List.toList_toArray];refine wpAny_bind (wpAny_newList ?_ hz);have es:((s.heap.push (seqObj "list" #[] 0)).update s.heap.objs.size (Obj.mapSeq (·++vs.toArray))).objs.size=s.heap.objs.size+1:=by rw[Heap.size_update,size_push']
 have gL:(((s.heap.push (seqObj "list" #[] 0)).update s.heap.objs.size (Obj.mapSeq (·++vs.toArray))).push (seqObj "list" vs.toArray 0)).get? (s.heap.objs.size+1)=some (seqObj "list" vs.toArray 0):=by rw[<-es];exact Heap.get?_push_size _ rfl
 have k2:∀b o,s.heap.get? b=some o->(((s.heap.push (seqObj "list" #[] 0)).update s.heap.objs.size (Obj.mapSeq (·++vs.toArray))).push (seqObj "list" vs.toArray 0)).get? b=some o:=λb o e=>
  Heap.get?_push_of_some _ (by rw[Heap.get?_update_ne _ _ _ _ (Nat.ne_of_lt (Heap.lt_size e))];exact Heap.get?_push_of_some _ e)
 have nb:∀b o,s.heap.get? b=some o->b≠s.heap.objs.size+1:=λb o e=>Nat.ne_of_lt (Nat.lt_succ_of_lt (Heap.lt_size e));show wpAny _ _ _ _ _ { s with heap:=((s.heap.push (seqObj "list" #[] 0)).update s.heap.objs.size (Obj.mapSeq (·++vs.toArray))).push (seqObj "list" vs.toArray 0) };rw[es];refine wpAny_bind (wpAny_holding (wpAny_call_entry slot_list_sort ⟨_,gL,rfl⟩ entry_list_sort (zju (κ:=κ) (kd:=kd) gL hz (λh' k'=>L _ h' (zk8 A) λb o e=>k' b o (nb b o e) (k2 b o e)) h0 (λh2 h' Q k' q=>hkk h2 _ _ h' Q (λb o e=>k' b o (nb b o e) (k2 b o e)) q) λout p1 p2=>⟨_,rfl,?_⟩) (args_list_sort _)));refine wpAny_pure ⟨_,rfl,?_⟩;obtain⟨e,he⟩:=sortedAll_at s.heap vs (out.map (·.2));exact h out _ _ e p1 p2 (Nat.le_succ _) he λb o z=>sortedAll_old z
end
end SQ
namespace SQ
open PySem PyProof.Rows
set_option autoImplicit false
@[reducible] def intK:KeyKind where
 α:=Int
 blt a b:=decide (a<b)
 irrefl a:=by simp
 trans a b c h1 h2:=by simp only[decide_eq_true_eq]at *;omega
 negTrans a b c h:=by simp only[decide_eq_true_eq]at *;omega
 total a b h1 h2:=by simp only[decide_eq_false_iff_not]at *;omega
 keyOf v:=match v with|.int i _=>some i|_=>none
 dflt:=0
theorem zk9{prog:Program}{w:World}{A:Around}{s:Shared}:km prog w A s intK oneType':=λE x y a b Q ha hb q=>by
 cases x <;> simp only[intK,reduceCtorEq,Option.some.injEq]at ha
 cases y <;> simp only[intK,reduceCtorEq,Option.some.injEq]at hb
 cases ha;cases hb;rw[keyLt'_oneType];exact oneLt_int q
def RefIs(h:Heap)(v:Value)(is:List Int):Prop:=∃a its,v=.ref a/\IsTup h a its/\IntsAre its.toList is
theorem IntsAre.same{vs:List Value}{ns ms:List Int}(h:IntsAre vs ns)(h':IntsAre vs ms):ns=ms:=by rw[<-h.nums,<-h'.nums]
theorem RefIs.uniq{h:Heap}{v:Value}{is js:List Int}(x:RefIs h v is)(y:RefIs h v js):is=js:=by
 obtain⟨a,its,rfl,⟨o,e,_,n,d⟩,i1⟩:=x;obtain⟨a',its',e',⟨o',e2,_,n',d'⟩,i2⟩:=y
 cases e';rw[e]at e2
 cases e2;rw[d]at d'
 cases d';exact IntsAre.same i1 i2
theorem RefIs.keep{h h':Heap}{v:Value}{is:List Int}(k:∀b o,h.get? b=some o->h'.get? b=some o)(x:RefIs h v is):RefIs h' v is:=by
 obtain⟨a,its,e,t,i⟩:=x;exact⟨a,its,e,t.keeps k,i⟩
open Classical in
noncomputable def za8 (h:Heap) (v:Value):Option (List Int):=if x:∃is,RefIs h v is then some x.choose else none
theorem zcu{h:Heap}{v:Value}{is:List Int}(e:za8 h v=some is):RefIs h v is:=by
 unfold za8 at e
 split at e
 ·next x=>cases e;exact x.choose_spec
 ·cases e
theorem zar{h:Heap}{v:Value}{is:List Int}(x:RefIs h v is):za8 h v=some is:=by
 unfold za8;rw[dif_pos ⟨is,x⟩];rw[(Exists.choose_spec (p:=λis=>RefIs h v is) ⟨is,x⟩).uniq x]
@[reducible] noncomputable def zfb (h:Heap):KeyKind where
 α:=List Int
 blt a b:=decide (a<b)
 irrefl a:=by simpa using List.lt_irrefl a
 trans a b c h1 h2:=by simp only[decide_eq_true_eq]at *;exact List.lt_trans h1 h2
 negTrans a b c h:=by
  simp only[decide_eq_true_eq]at *
  by_cases c:a<b
  ·exact .inl c
  ·exact .inr (List.lt_of_le_of_lt (List.not_lt.mp c) h)
 total a b h1 h2:=by simp only[decide_eq_false_iff_not]at *;exact List.le_antisymm (List.not_lt.mp h2) (List.not_lt.mp h1)
 keyOf v:=za8 h v
 dflt:=[]
section
variable {prog:Program}{w:World}{A:Around}{E:Value->Shared->Prop}{s:Shared}
theorem zjv{a b:Int}{t u:Tok}{f:Bool}{Q:Bool->Shared->Prop}(h:Q (decide (a<b)) s):wpAny (model prog w) A (oneLt' f (.int a t) (.int b u)) Q E s:=by
 cases f with
 |true=>exact oneLt_int h
 |false=>
  rw[oneLt'_eq];rw[if_neg (by decide)];have:=CmpOf.ints_lt (prog:=prog) (w:=w) (A:=A) (P:=λi v=>(i=0/\v=.int a t)\/(i=1/\v=.int b u)) (λi=>if i=0 then a else b) (λi v hv=>by
   rcases hv with⟨rfl,rfl⟩ |⟨rfl,rfl⟩
   ·exact⟨t,rfl⟩
   ·exact⟨u,rfl⟩)
  exact wpAny_bind (this 0 1 _ _ s _ E (.inl ⟨rfl,rfl⟩) (.inr ⟨rfl,rfl⟩) (wpAny_truthy_bool h))
theorem zla{f:Bool}:∀{xs ys:List Value}{as bs:List Int} (k:Nat) (Q:Option Bool×Unit->Shared->Prop),IntsAre xs as->IntsAre ys bs->(∀r,(r=none->as.take bs.length=bs.take as.length)->(∀b,r=some b->b=decide (as<bs))->Q (r,()) s) ->
  wpAny (model prog w) A (forIn ((xs.zip ys).zipIdx k) ((none,()):Option Bool×Unit) λx _=>match x with
   |((p,q),i)=>do
    let e <-eqBool p q
    if (!e)=true then do
     let r <-oneLt' (f && i == 0) p q
     pure (ForInStep.done (some r,()))
    else pure (ForInStep.yield (none,()))) Q E s
 |_,_,_,_,k,Q,.nil,h2,q=>by
  simp only[List.zip_nil_left,List.zipIdx_nil,List.forIn_nil];exact wpAny_pure (q none (λ_=>by simp) (λb e=>by cases e))
 |_,_,_,_,k,Q,.cons a t h1,.nil,q=>by
  simp only[List.zip_nil_right,List.zipIdx_nil,List.forIn_nil];exact wpAny_pure (q none (λ_=>by simp) (λb e=>by cases e))
 |_,_,_,_,k,Q,.cons (ns:=as) a t h1,.cons (ns:=bs) b u h2,q=>by
  simp only[List.zip_cons_cons,List.zipIdx_cons,List.forIn_cons];refine wpAny_bind ?_;refine wpAny_bind (wpAny_eqBool_int ?_)
  by_cases c:a=b
  ·subst c;rw[if_neg (by simp)];refine wpAny_pure (zla (k+1) Q h1 h2 λr r1 r2=>q r (λe=>?_) λd e=>?_)
   ·simp only[List.length_cons,List.take_succ_cons];rw[r1 e]
   ·rw[r2 d e];exact decide_eq_decide.mpr (by rw[List.cons_lt_cons_iff];simp)
  ·rw[if_pos (by simpa using c)];refine wpAny_bind (zjv (wpAny_pure (wpAny_pure (q _ (λe=>by cases e) λd e=>?_))))
   cases e;exact decide_eq_decide.mpr (by rw[List.cons_lt_cons_iff];simp[c])
theorem zfu:∀{as bs:List Int},as.take bs.length=bs.take as.length->decide (as<bs)=decide (as.length<bs.length)
 |[],[],_=>by simp
 |[],b::bs,_=>by simp
 |a::as,[],_=>by simp
 |a::as,b::bs,h=>by
  simp only[List.length_cons,List.take_succ_cons,List.cons.injEq]at h;obtain⟨rfl,h⟩:=h;have:=zfu h;rw[decide_eq_decide]at this ⊢;rw[List.cons_lt_cons_iff];simp only[Int.lt_irrefl,false_or,true_and,List.length_cons,this];omega
theorem zlb{h₀:Heap}{f:Bool}(k:∀b o,h₀.get? b=some o->s.heap.get? b=some o):km prog w A s (zfb h₀) (tuples' f):=λE x y a b Q ha hb q=>by
 obtain⟨ra,ia,rfl,⟨oa,ga,_,na,da⟩,ta⟩:=(zcu ha).keep k;obtain⟨rb,ib,rfl,⟨ob,gb,_,nb,db⟩,tb⟩:=(zcu hb).keep k;refine wpAny_bind (listItems_at ga da (wpAny_bind (listItems_at gb db (wpAny_bind (zla 0 _ ta tb λr r1 r2=>?_)))))
 cases r with
 |some d=>
  dsimp only
  cases r2 d rfl;exact wpAny_pure q
 |none=>
  dsimp only;refine wpAny_pure ?_;have:=zfu (r1 rfl);rw[<-ta.length,<-tb.length]at this;rw[show decide (ia.size<ib.size)=(zfb h₀).blt a b from ?_]
  ·exact q
  ·show _=decide (a<b);rw[this];simp
end
end SQ
namespace SQ
open PySem PyProof.Rows
set_option autoImplicit false
inductive All2{α β:Type}(R:α->β->Prop):List α->List β->Prop
 |nil:All2 R [] []
 |cons {a:α}{b:β}{as:List α}{bs:List β} (h:R a b) (t:All2 R as bs):All2 R (a::as) (b::bs)
theorem All2.imp{α β:Type}{R S:α->β->Prop}(f:∀a b,R a b->S a b){as:List α}{bs:List β}(h:All2 R as bs):All2 S as bs:=by
 induction h with
 |nil=>exact .nil
 |cons h _ ih=>exact .cons (f _ _ h) ih
theorem All2.mem{α β:Type}{R:α->β->Prop}{as:List α}{bs:List β}(h:All2 R as bs){a:α}(ha:a∈as):∃b∈bs,R a b:=by
 induction h with
 |nil=>cases ha
 |cons h _ ih=>
  rcases List.mem_cons.mp ha with rfl|ha
  ·exact⟨_,List.mem_cons_self,h⟩
  ·obtain⟨b,hb,r⟩:=ih ha;exact⟨b,List.mem_cons_of_mem _ hb,r⟩
section
variable {prog:Program}{w:World}{A:Around}{E:Value->Shared->Prop}{s:Shared}
theorem zmv{v:Value}{i:Int}{is:List Int}(h:RefIs s.heap v (i::is)):∃t,∀Q:Option Value->Shared->Prop,Q (some (.int i t)) s->wpAny (model prog w) A (firstOfTuple' v) Q E s:=by
 obtain⟨a,its,rfl,⟨o,g,c,n,d⟩,ii⟩:=h;obtain⟨t,rest,e⟩:∃t rest,its.toList=.int i t::rest:=by
  cases e:its.toList with
  |nil=>rw[e]at ii;cases ii
  |cons x r=>
   rw[e]at ii
   cases ii with
   |cons n t h=>exact⟨t,r,rfl⟩
 refine⟨t,λQ q=>wpAny_bind (wpAny_typeOf (T := "tuple") ⟨o,g,c⟩ ?_)⟩;rw[if_neg (by decide)];refine wpAny_bind (listItems_at g d (wpAny_pure ?_));have:its[0]?=some (.int i t):=by rw[<-Array.getElem?_toList,e];rfl
 rw[this];exact q
theorem zfv:∀{vs:List Value}{tss:List (List Int)},All2 (RefIs s.heap) vs tss->(∀t∈tss,t ≠ [])->∃(fs:List Value) (ns:List Int),IntsAre fs ns/\fs.length=vs.length/\∀Q:List (Option Value)->Shared->Prop,Q (fs.map some) s->wpAny (model prog w) A (vs.mapM firstOfTuple') Q E s
 |_,_,.nil,_=>⟨[],[],.nil,rfl,λQ q=>by rw[List.mapM_nil];exact wpAny_pure q⟩
 |_,_,.cons (b:=t) h r,hne=>by
  obtain⟨fs,ns,i1,l1,w1⟩:=zfv r λx hx=>hne x (List.mem_cons_of_mem _ hx)
  cases t with
  |nil=>exact absurd rfl (hne [] List.mem_cons_self)
  |cons i is=>
   obtain⟨t,w2⟩:=zmv (prog:=prog) (w:=w) (A:=A) (E:=E) h;refine⟨.int i t::fs,i::ns,.cons i t i1,by simp[l1],λQ q=>?_⟩;rw[List.mapM_cons];exact wpAny_bind (w2 _ (wpAny_bind (w1 _ (wpAny_pure q))))
theorem zfw{vs:List Value}{tss:List (List Int)}{Q:SortKind->Shared->Prop}(h:All2 (RefIs s.heap) vs tss)(hne:∀t∈tss,t ≠ [])(h2:2<=vs.length)(q:Q (tuples' true) s):wpAny (model prog w) A (keyKind' vs.toArray) Q E s:=by
 obtain⟨fs,ns,i1,l1,w1⟩:=zfv (prog:=prog) (w:=w) (A:=A) (E:=E) h hne;rw[keyKind'_eq,List.mapM_toArray];simp only[map_eq_pure_bind,bind_assoc,pure_bind];refine wpAny_bind (w1 _ ?_);rw[if_pos (by simp)];refine wpAny_bind (m:=rule _) (wpAny_rule ?_);have ef:Array.filterMap id (List.map some fs).toArray=fs.toArray:=by simp
 rw[ef,oneTypeOnly'_eq,List.mapM_toArray,mapM_typeOf_ints i1];simp only[map_pure,pure_bind]
 cases fs with
 |nil=>simp at l1;omega
 |cons f fs=>
  have hall:((List.map (λ_=>Value.type "int") (f::fs)).toArray.all λx=>x == Value.type "int")=true:=by
   simp only[List.all_toArray,List.all_map,List.all_eq_true];intro _ _;rfl
  have g0:(List.map (λ_=>Value.type "int") (f::fs)).toArray[0]?=some (Value.type "int"):=by simp
  rw[g0];simp only[hall,if_true,pure_bind];exact wpAny_pure q
theorem qj{κ:KeyKind}{vs:List Value}(h:∀v∈vs,∃a,κ.keyOf v=some a):KeysOf κ (pairsOf vs):=λp hp=>by
 rw[pairsOf_toList]at hp;exact h _ (mem_zip_self hp).2
theorem zas{κ:KeyKind}{vs:List Value}{out:Array Keyed}(p:out.Perm (pairsOf vs))(so:SortedToK κ out (pairsOf vs).size)(hk:∀v∈vs,∃a,κ.keyOf v=some a):
  (out.map (·.2)).toList.Perm vs/\∃ks:List κ.α,All2 (λv k=>κ.keyOf v=some k) (out.map (·.2)).toList ks/\ks.Pairwise κ.kle:=by
 have pl:=Array.perm_iff_toList_perm.mp p;rw[pairsOf_toList]at pl;have diag:∀x∈out.toList,x.1=x.2/\x.1∈vs:=λx hx=>mem_zip_self (pl.mem_iff.mp hx);refine⟨?_,out.toList.map λx=>(κ.keyOf x.1).getD κ.dflt,?_,?_⟩
 ·rw[Array.toList_map];have:=pl.map (·.2)
  rwa [show(vs.zip vs).map (·.2)=vs by rw[List.map_snd_zip (Nat.le_refl _)]]at this
 ·rw[Array.toList_map];clear so p pl;generalize out.toList=l at diag
  induction l with
  |nil=>exact .nil
  |cons x l ih=>
   refine .cons ?_ (ih λy hy=>diag y (List.mem_cons_of_mem _ hy));obtain⟨e,m⟩:=diag x List.mem_cons_self;obtain⟨a,ea⟩:=hk _ m;show κ.keyOf x.2=some ((κ.keyOf x.1).getD κ.dflt);rw[<-e,ea];rfl
 ·rw[List.pairwise_map,List.pairwise_iff_getElem];intro i j h1 h2 hij;have h1':i<out.size:=by simpa using h1
  have h2':j<out.size:=by simpa using h2
  have:=so i j (Nat.le_of_lt hij) (by rw[<-p.size_eq];exact h2');unfold KK at this;rw[Array.getElem?_eq_getElem h1',Array.getElem?_eq_getElem h2']at this;simpa using this
end
end SQ
namespace L2
open PySem PySem.Spec PyProof.Rows SQ
def zlc(ns:List Int):List Int:=ns.mergeSort (λa b=>decide (a<=b))
def jk(tss:List (List Int)):List (List Int):=tss.mergeSort (λa b=>!decide (b<a))
def tD(is:List Int):D:=.tuple (is.map PyData.int)
theorem zjw(ns:List Int):(zlc ns).Perm ns:=List.mergeSort_perm _ _
theorem zo6(ns:List Int):(zlc ns).Pairwise (· <= ·):=by
 have:=List.pairwise_mergeSort (le:=λa b:Int=>decide (a<=b)) (λa b c h1 h2=>by simp at *;omega) (λa b=>by simp;omega) ns;exact this.imp λh=>by simpa using h
theorem zd7{ms ns:List Int}(p:ms.Perm ns)(h:ms.Pairwise (· <= ·)):ms=zlc ns:=(p.trans (zjw ns).symm).eq_of_pairwise (λa b _ _ h3 h4=>Int.le_antisymm h3 h4) h (zo6 ns)
theorem v6(tss:List (List Int)):(jk tss).Perm tss:=List.mergeSort_perm _ _
theorem zmw{a b c:List Int}(h1:¬ b<a)(h2:¬ c<b):¬ c<a:=λh=>h1 (List.lt_of_le_of_lt (List.not_lt.mp h2) h)
theorem zd8(tss:List (List Int)):(jk tss).Pairwise λa b=>¬ b<a:=by
 have:=List.pairwise_mergeSort (le:=λa b:List Int=>!decide (b<a)) (λa b c h1 h2=>by
  simp only[Bool.not_eq_true',decide_eq_false_iff_not]at *;exact zmw h1 h2) (λa b=>by
  simp only[Bool.or_eq_true,Bool.not_eq_true',decide_eq_false_iff_not]
  by_cases c:b<a
  ·exact .inr λz=>List.lt_irrefl _ (List.lt_trans z c)
  ·exact .inl c) tss
 exact this.imp λh=>by simpa using h
theorem za9{ss tss:List (List Int)}(p:ss.Perm tss)(h:ss.Pairwise λa b=>¬ b<a):ss=jk tss:=(p.trans (v6 tss).symm).eq_of_pairwise (λa b _ _ h3 h4=>List.le_antisymm (List.not_lt.mp h3) (List.not_lt.mp h4)) h (zd8 tss)
def zcg(xs:List D)(Q:List D->Prop):Prop:=(∃ns:List Int,xs=ns.map PyData.int/\Q ((zlc ns).map PyData.int))\/∃tss:List (List Int),xs=tss.map tD/\(∀t∈tss,t ≠ [])/\Q ((jk tss).map tD)
def zjx:List D->(List D->Prop)->Prop
 |[.list xs],Q=>zcg xs Q
 |[.tuple xs],Q=>zcg xs Q
 |_,_=>False
theorem zat{K:PySem.W.Frag}{H:Hp}{us us':List Value}(p:us'.Perm us):∀{vs:List V}{ds:List D},Vals vs us->Reps K H ds vs->∃vs' ds',Vals vs' us'/\Reps K H ds' vs'/\ds'.Perm ds:=by
 induction p with
 |nil=>intro vs ds r rp;exact⟨vs,ds,r,rp,.refl _⟩
 |cons u p ih=>
  intro vs ds r rp
  cases r with
  |cons r1 r2=>
   cases rp with
   |cons q1 q2=>
    obtain⟨vs',ds',a1,a2,a3⟩:=ih r2 q2;exact⟨_,_,.cons r1 a1,.cons q1 a2,a3.cons _⟩
 |swap u v l=>
  intro vs ds r rp
  cases r with
  |cons r1 r2=>
   cases r2 with
   |cons r3 r4=>
    cases rp with
    |cons q1 q2=>
     cases q2 with
     |cons q3 q4=>exact⟨_,_,.cons r3 (.cons r1 r4),.cons q3 (.cons q1 q4),.swap _ _ _⟩
 |trans p1 p2 ih1 ih2=>
  intro vs ds r rp;obtain⟨vs1,ds1,a1,a2,a3⟩:=ih2 r rp;obtain⟨vs2,ds2,b1,b2,b3⟩:=ih1 a1 a2;exact⟨vs2,ds2,b1,b2,b3.trans a3⟩
section
variable {X:Cx}
theorem zbw{pins:List (Addr×Obj)}{σ:St}{H:Hp}{s:Shared}(I:Inv X pins σ H s):∀{tss:List (List Int)}{vs:List V}{us:List Value},Reps X.K H (tss.map tD) vs->Vals vs us->All2 (RefIs s.heap) us tss
 |[],_,_,.nil,.nil=>.nil
 |t::tss,_,_,.cons r rs,.cons q qs=>by
  refine .cons ?_ (zbw I rs qs)
  cases r with
  |tup h r=>
   cases q;have:=Reps.of_ints r;subst this;obtain⟨its,rv,ht,_⟩:=I.tuple h;exact⟨_,its.toArray,rfl,ht,by simpa using v3 rv⟩
theorem zbx{α:Type}{f:α->D}(g:D->α)(hg:∀a,g (f a)=a){ds:List D}{as:List α}(p:ds.Perm (as.map f)):∃bs:List α,ds=bs.map f/\bs.Perm as:=by
 have:∀d∈ds,∃a,d=f a/\True:=λd hd=>by
  obtain⟨a,_,e⟩:=List.mem_map.mp (p.mem_iff.mp hd);exact⟨a,e.symm,trivial⟩
 obtain⟨bs,e,_⟩:=zgr this;subst e;refine⟨bs,rfl,?_⟩;have z:∀l:List α,(l.map f).map g=l:=λl=>by rw[List.map_map];exact(List.map_congr_left λa _=>hg a).trans (List.map_id _)
 have:=p.map g
 rwa [z,z]at this
def deI:D->Int
 |.int i=>i
 |_=>0
def deT:D->List Int
 |.tuple xs=>xs.map deI
 |_=>[]
theorem zld(i:Int):deI (.int i)=i:=rfl
theorem zo7(is:List Int):deT (tD is)=is:=by
 show(is.map PyData.int).map deI=is;rw[List.map_map];exact(List.map_congr_left λa _=>rfl).trans (List.map_id _)
theorem zfx{pins:List (Addr×Obj)}{σ:St}{H:Hp}{s:Shared}{Q:List D->Prop}{xs:List D}{vs:List V}{us:List Value}{a:Addr}{T:String}{o:Obj}{n:Nat}(I:Inv X pins σ H s)(r:Reps X.K H xs vs)(rv:Vals vs us)(hT:T = "list" \/ T = "tuple")(ho:s.heap.get? a=some o)(hc:o.cls=.type T)(hd:o.data=.seq us.toArray n)(hz:vs.length<=sizeLine)(q:zcg xs Q):
  wpAny (model X.prog X.w) X.A (call (.builtin "sorted") [.ref a]) (zdx X pins σ H Q) X.xe s:=by
 have zu:us.length<=sizeLine:=by rw[<-rv.length];exact hz
 have fin:∀(out:Array Keyed) (h':Heap) (p:Addr) (e:Nat) (ys:List D) (vs':List V),(out.map (·.2)).toList.Perm us->Vals vs' (out.map (·.2)).toList->Reps X.K H ys vs'->s.heap.objs.size<=p->h'.get? p=some (seqObj "list" (out.map (·.2)) e)->(∀b o,s.heap.get? b=some o->h'.get? b=some o)->Q ys->zdx X pins σ H Q (.ref p) { s with heap:=h' }:=by
  intro out h' p e ys vs' pm rv' r' hp g k qy;have hn:=I.hok.fresh hp;have lv:vs'.length<=sizeLine:=by rw[rv'.length,pm.length_eq];exact zu
  exact⟨p,_,vs',ys,rfl,I.laid (t':=s.toks) (o:=.lst vs') k hp ⟨lv,(out.map (·.2)).toList,e,rv',g⟩,yk hn _,hn,z9,r'.same (yk hn _),qy⟩
 rcases q with⟨ns,rfl,q⟩ |⟨tss,rfl,hne,q⟩
 ·have e1:=Reps.of_ints r;subst e1;have hi:=v3 rv
  have hk:∀v∈us,∃k,intK.keyOf v=some k:=λv hv=>by
   obtain⟨i,t,rfl⟩:=hi.all v hv;exact⟨i,rfl⟩
  refine zh2 (κ:=intK) (kd:=oneType') hT ho hc hd zu (λA' h' _ _=>zk9) (qj hk) (λh2 A' E' h' Q' k q=>?_) λout h' p e p1 p2 hp g k=>?_
  ·cases us with
   |nil=>simp at h2
   |cons u us=>
    cases us with
    |nil=>simp at h2
    |cons u2 us=>rw[keyKind_ints hi];exact wpAny_pure q
  ·obtain⟨pm,ks,a2,pw⟩:=zas p1 p2 hk;obtain⟨vs',ds',rv',r',pd⟩:=zat pm rv r;obtain⟨ms,rfl,pms⟩:=zbx deI zld pd;have e2:=Reps.of_ints r';subst e2
   have ek:ks=ms:=by
    have hm:=v3 rv';clear pm pms pw pd r' rv';generalize (out.map (·.2)).toList=l at hm a2
    induction a2 generalizing ms with
    |nil=>cases hm;rfl
    |cons h t ih=>
     cases hm with
     |cons i t' h'=>
      simp only[intK,Option.some.injEq]at h;subst h;rw[ih _ h']
   subst ek;have:=zd7 pms (pw.imp λh=>by simpa[intK,KeyOrd.kle]using h);exact fin out h' p e _ _ pm rv' r' hp g k (by rw[this];exact q)
 ·have rf:=zbw I r rv
  have hk:∀v∈us,∃k,(zfb s.heap).keyOf v=some k:=λv hv=>by
   obtain⟨t,_,h⟩:=rf.mem hv;exact⟨t,zar h⟩
  refine zh2 (κ:=zfb s.heap) (kd:=tuples' true) hT ho hc hd zu (λA' h' _ k=>zlb k) (qj hk) (λh2 A' E' h' Q' k q=>zfw (rf.imp λ_ _ h=>h.keep k) hne h2 q) λout h' p e p1 p2 hp g k=>?_;obtain⟨pm,ks,a2,pw⟩:=zas p1 p2 hk;obtain⟨vs',ds',rv',r',pd⟩:=zat pm rv r;obtain⟨ss,rfl,pms⟩:=zbx deT zo7 pd;have rf':=zbw I r' rv';have ek:ks=ss:=by
   clear pm pms pw r' rv' pd;generalize (out.map (·.2)).toList=l at rf' a2
   induction a2 generalizing ss with
   |nil=>cases rf';rfl
   |cons h t ih=>
    cases rf' with
    |cons h1 t1=>
     have:=zar h1;rw[show(zfb s.heap).keyOf _=za8 s.heap _ from rfl,this]at h
     cases h;rw[ih _ t1]
  subst ek;have:=za9 pms (pw.imp λh=>by simpa[zfb,KeyOrd.kle]using h);exact fin out h' p e _ _ pm rv' r' hp g k (by rw[this];exact q)
theorem zq9:CallF X (.builtin "sorted") zjx:=⟨λpins s σ H vs us ds Q I rv rd q=>by
 match ds,q,rd with
 |[.list xs],q,rd=>
  obtain⟨v,rfl,r⟩:=rd.one;obtain⟨a,vs,rfl,h,r⟩:=r.list.sq;obtain⟨u,rfl,r1⟩:=rv.one
  cases r1;obtain⟨its,rvs,pl,hz⟩:=I.list h;obtain⟨o,ho,hc,n,hd⟩:=pl.isList;exact zfx I r rvs (.inl rfl) ho hc hd hz q
 |[.tuple xs],q,rd=>
  obtain⟨v,rfl,r⟩:=rd.one;obtain⟨a,vs,rfl,h,r⟩:=r.tuple;obtain⟨u,rfl,r1⟩:=rv.one
  cases r1;obtain⟨its,rvs,⟨o,ho,hc,n,hd⟩,hz⟩:=I.tuple h;exact zfx I r rvs (.inr rfl) ho hc hd hz q⟩
end
end L2
namespace L2
open PySem PySem.Spec PyProof.Rows
namespace RV
theorem zxe:Manifest.owners.lookup (String.ofList ['d','e','s','r','e','v','e','r'].reverse)=some Manifest.sig_reversed:=by kernel_rfl
theorem sNext:Slot "reversed" "__next__" "reversed.__next__" := .of (owner := "reversed") (n := "__next__") (by rw[typeLookup_type,builtinLookup_eq_fast];kernel_rfl) (by decide +kernel) (by decide +kernel) (by decide +kernel) (by first|exact .inl (by decide +kernel)|exact .inr (by decide +kernel)) (by rw[isSubtype_type];kernel_rfl)
theorem zse:Slot "reversed" "__iter__" "reversed.__iter__" := .of (owner := "reversed") (n := "__iter__") (by rw[typeLookup_type,builtinLookup_eq_fast];kernel_rfl) (by decide +kernel) (by decide +kernel) (by decide +kernel) (by first|exact .inl (by decide +kernel)|exact .inr (by decide +kernel)) (by rw[isSubtype_type];kernel_rfl)
theorem zwf(a:Value):argsOk "reversed.__iter__" ⟨[a],[]⟩:=by
 unfold argsOk;rw[signature?_of (id := "reversed.__iter__") (n:=['_','_','r','e','t','i','_','_']) (o:=['d','e','s','r','e','v','e','r']) (by kernel_rfl) zxe];kernel_rfl
theorem zwg:entryFor table "reversed.__iter__" = some Builtin.«dict_keyiterator.__iter__»:=entryFor_alias (id' := "dict_keyiterator.__iter__") (by kernel_rfl) (by first|rfl|decide +kernel |(unfold String.splitOn;simp +decide [String.splitOnAux])) (by decide +kernel) (by kernel_rfl)
end RV
namespace RV
def ob(l:Addr)(i:Int):Obj:={ cls:=.type "reversed",data:=.fields #[.ref l,rawInt i] }
def Is(h:Heap)(a l:Addr)(i:Int):Prop:=∃o,h.get? a=some o/\o.cls=.type "reversed" /\ o.data=.fields #[.ref l,rawInt i]
theorem Is.typeIs{s:Shared}{a l:Addr}{i:Int}(x:Is s.heap a l i):s.TypeIs (.ref a) "reversed" := let ⟨o,ho,hc,_⟩:=x;⟨o,ho,hc⟩
section
variable {prog:Program}{w:World}{A:Around}{E:Value->Shared->Prop}{s:Shared}
theorem iter{it l:Addr}{i:Int}{Q:Value->Shared->Prop}(hit:Is s.heap it l i)(h:Q (.ref it) s):wpAny (model prog w) A (pyIter (.ref it)) Q E s:=by
 refine wpAny_pyIter_slot hit.typeIs zse (wpAny_call_entry zse hit.typeIs zwg ?_ (zwf _));show wpAny _ _ (ret (.ref it)) _ _ s;exact wpAny_pure ⟨_,rfl, "reversed",_,hit.typeIs,sNext.lookup,h⟩
end
end RV
theorem zfy:∀(l:List Value) (k:Nat),(∀(j:Nat) v,l[j]?=some v->∃t,v=.int ((k+j:Nat):Int) t)->Vals ((List.range' k l.length).map λi:Nat=>V.int i) l
 |[],_,_=>.nil
 |v::l,k,h=>by
  rw[List.length_cons,List.range'_succ];refine .cons ?_ (zfy l (k+1) λj v hv=>?_)
  ·exact h 0 v rfl
  ·have:=h (j+1) v hv
   rwa [show k+(j+1)=k+1+j by omega]at this
theorem zo8{acc:Array Value}{n:Nat}(h:ItemsOf (λi v=>∃t,v=.int (0+i * 1) t) acc n):Vals ((List.range n).map λi:Nat=>V.int i) acc.toList:=by
 obtain⟨hz,hv⟩:=h;have:=zfy acc.toList 0 λj v e=>by
  obtain⟨t,et⟩:=hv j v (by simpa using e);exact⟨t,by rw[et];congr 1;omega⟩
 rw[List.range_eq_range',<-hz];simpa using this
section
variable {X:Cx}{a:Expr}{p pos p2 pos2:Pos}
def tLR(ta:TA):TE:=λσ H Q=>ta σ H λvs H1=>∃j:Int,vs = [.int j]/\0<=j/\j<=1000000/\∀d,H1 d=none->Q (.ref d) (upd H1 d (.lst ((List.range j.toNat).map λi:Nat=>V.int i)))
theorem zo9{ta:TA}(hgl:Gl X "list")(hml:X.mg "list" = none)(hg:Gl X "range")(hm:X.mg "range" = none)(hc:X.calm=true)(ha:PA X [a] ta)(hs:starEach [a] X.env = [(false,eval a X.env)]:=by rfl)
  (hs2:starEach [.Call (.Name "range" p2) [a] [] pos2] X.env = [(false,eval (.Call (.Name "range" p2) [a] [] pos2) X.env)]:=by rfl) :
  PE X (.Call (.Name "list" p) [.Call (.Name "range" p2) [a] [] pos2] [] pos) (tLR ta):=by
 intro pins s σ H Q I h;refine Call_ (kx I hgl hml PyProof.Rows.boot_list (PyProof.Rows.callWith_type1 ?_ hs2 rfl));rw[hs2];show wpAny _ _ (spliced ((false,eval (.Call (.Name "range" p2) [a] [] pos2) X.env)::backTo pos [])) _ _ s;refine Calls.spliced_cons ?_;refine Call_ (kx I hg hm boot_range (PyProof.Rows.callWith_type1 (thn (ha pos2 pins s σ H _ I h) λus s1 ⟨vs,H1,I1,r1,q1⟩=>?_) hs rfl));obtain⟨j,e,h0,h1,q⟩:=q1;subst e
 cases r1 with
 |cons r rr=>
  cases rr;obtain⟨t,rfl⟩:=r;refine call_range_1 (Calls.spliced_nil ?_);refine call_list_range (n:=j.toNat) (I.ok.hd hc) (IsRange.new ..) (small_one (by omega) (by omega) (by omega) (by omega)) (by rw[rangeSize_one];split <;> omega) (by omega) λh' tk acc' c' hk hS hacc=>?_;have hz:=hacc.1;have sz:(s1.heap.push { cls:=.type "range",data:=.fields #[.int 0 s1.toks,.int j t,.int 1 (s1.toks+1)] }).objs.size=s1.heap.objs.size+1:=Heap.size_push ..;have hf:H1 (s1.heap.push { cls:=.type "range",data:=.fields #[.int 0 s1.toks,.int j t,.int 1 (s1.toks+1)] }).objs.size=none:=I1.hok.fresh (by rw[sz];omega);refine⟨.ref _,upd H1 _ (.lst ((List.range j.toNat).map λi:Nat=>V.int i)),I1.laid (t':=tk) (λb u e=>hk _ _ (Heap.get?_push_of_some _ e)) (by rw[sz];omega) ?_,rfl,q _ hf⟩;exact⟨by simp[sizeLine_eq];omega,acc'.toList,c',zo8 hacc,by simpa using hS⟩
def dLR(t:DTF):DTF:=λσ Q=>t σ λds=>match ds with
 |[.int j]=>0<=j/\j<=1000000/\Q (y3 0 j.toNat)
 |_=>False
theorem zjy{K:PySem.W.Frag}{H:Hp}(n:Nat):Reps K H (y3 0 n) ((List.range n).map λi:Nat=>V.int i):=by
 unfold y3;generalize List.range n=is
 induction is with
 |nil=>exact .nil
 |cons i is ih=>
  refine .cons ?_ ih;show Rep K H (.int (0+(i:Int))) (.int (i:Int));rw[Int.zero_add];exact .int
theorem zpa{t:DTF}(hgl:Gl X "list")(hml:X.mg "list" = none)(hg:Gl X "range")(hm:X.mg "range" = none)(hc:X.calm=true)(ha:DA X [a] t)(hs:starEach [a] X.env = [(false,eval a X.env)]:=by rfl)
  (hs2:starEach [.Call (.Name "range" p2) [a] [] pos2] X.env = [(false,eval (.Call (.Name "range" p2) [a] [] pos2) X.env)]:=by rfl) :
  DF X (.Call (.Name "list" p) [.Call (.Name "range" p2) [a] [] pos2] [] pos) (dLR t) :=
 DF.of (zo9 hgl hml hg hm hc ha.pa hs hs2) λσ H H₀ σD QD ok q=>⟨H₀,σD,_,ok,q,λvs H1 ds s1 r1 q1=>by
  match ds,r1,q1 with
  |[.int j],r1,q1=>
   cases r1 with
   |cons r t=>
   cases t
   cases r;refine⟨j,rfl,q1.1,q1.2.1,λd hd=>?_⟩;have n1:H d=none:=by
    cases z:H d with
    |none=>rfl
    |some u=>rw[s1 d u z]at hd;cases hd
   exact⟨d,_,_,rfl,s1.trans (yk hd _),n1,z9,zjy _,q1.2.2⟩⟩
end
end L2
namespace SQ
open PySem PyProof.Rows
set_option autoImplicit false
section
variable {κ:KeyKind}
variable {prog:Program}{w:World}{A:Around}{E:Value->Shared->Prop}{s:Shared}{κ:KeyKind}{kd:SortKind}{a₀:Array Keyed}
theorem zh3{st:SortSt}{Q:Unit->SortSt->Prop}(L:km prog w A s κ kd)(h0:KeysOf κ a₀)(g:SG kd a₀ st)(hp:pendingOf st = #[])(h2:2<=a₀.size)(h64:a₀.size<64)(q:∀st',SG kd a₀ st'->SortedToK κ (arrOf st') a₀.size->Q () st'):wpS (model prog w) A E s sortRuns' Q st:=by
 rw[sortRuns'_eq];refine wpS_bind (wpS_get ?_);dsimp only;simp only[g.sz];have emr:minRun' a₀.size a₀.size 0=a₀.size:=by
  obtain⟨m,hm⟩:∃m,a₀.size=m+1:=⟨a₀.size-1,by omega⟩
  conv=>lhs;arg 1;rw[hm]
  rw[minRun'_succ,if_pos h64,Nat.add_zero]
 rw[emr];refine wpS_bind (wpS_mono (wpS_forRange (I:=λx c z=>∃lo,c=(none,lo)/\SG kd a₀ z/\Cov κ (arrOf z) 0 (pendingOf z).toList lo/\lo<=a₀.size/\x<=lo/\((lo=0/\pendingOf z = #[])\/(lo=a₀.size/\(pendingOf z).size<=1)))
  (Q:=λc z=>c=(none,a₀.size)/\SG kd a₀ z/\Cov κ (arrOf z) 0 (pendingOf z).toList a₀.size/\(pendingOf z).size<=1) (λx c z hx1 hx2 h=>?_) (λc z h=>?_) ⟨0,rfl,g,by rw[hp];rfl,by omega,by omega,.inl ⟨rfl,hp⟩⟩) (λc z h=>?_))
 ·obtain⟨lo,rfl,gz,cv,l1,l2,l3⟩:=h;dsimp only;refine yi (λc=>?_) (λc=>?_)
  ·have e9:lo=a₀.size:=by omega
   subst e9;refine wpS_pure ⟨rfl,gz,cv,?_⟩;rcases l3 with⟨z,_⟩ |⟨_,z⟩
   ·omega
   ·exact z
  obtain⟨rfl,hpz⟩:lo=0/\pendingOf z = #[]:=by
   rcases l3 with z |⟨z,_⟩
   ·exact z
   ·omega
  refine wpS_bind (zd6 L h0 gz (by omega) (by omega) λk z1 g1 mv k1 k2 u=>?_);have hp1:pendingOf z1 = #[]:=by rw[mv.pend];exact hpz
  have cv1:Cov κ (arrOf z1) 0 (pendingOf z1).toList 0:=by rw[hp1];rfl
  dsimp only;refine yi (λcm=>?_) (λcm=>?_)
  ·refine wpS_bind (wpS_lift (wpAny_rule ⟨rfl,?_⟩));refine wpS_bind (zhy L h0 g1 (by omega) (by omega) u λz2 g2 mv2 u2=>?_);rw[if_neg (by decide)];have hp2:pendingOf z2 = #[]:=by rw[mv2.pend];exact hp1
   have cv2:Cov κ (arrOf z2) 0 (pendingOf z2).toList 0:=by rw[hp2];rfl
   refine wpS_bind (wpS_get ?_)
   cases hb:(pendingOf z2).back? with
   |none=>
    dsimp only;refine wpS_bind (wpS_modify (wpS_pure ⟨0+(min (a₀.size-0) a₀.size),rfl,⟨g2.perm,g2.kind,g2.fail⟩,?_,by omega,by omega,.inr ⟨by omega,?_⟩⟩))
    ·show Cov κ (arrOf z2) 0 ((pendingOf z2).push (0,min (a₀.size-0) a₀.size,0)).toList (0+(min (a₀.size-0) a₀.size));rw[Array.toList_push];exact cv2.push (by omega) u2
    ·show((pendingOf z2).push (0,min (a₀.size-0) a₀.size,0)).size<=1;rw[hp2];exact Nat.le_refl 1
   |some t=>rw[hp2]at hb;cases hb
  ·refine wpS_bind (wpS_get ?_)
   cases hb:(pendingOf z1).back? with
   |none=>
    dsimp only;refine wpS_bind (wpS_modify (wpS_pure ⟨0+(k),rfl,⟨g1.perm,g1.kind,g1.fail⟩,?_,by omega,by omega,.inr ⟨by omega,?_⟩⟩))
    ·show Cov κ (arrOf z1) 0 ((pendingOf z1).push (0,k,0)).toList (0+(k));rw[Array.toList_push];exact cv1.push k1 u
    ·show((pendingOf z1).push (0,k,0)).size<=1;rw[hp1];exact Nat.le_refl 1
   |some t=>rw[hp1]at hb;cases hb
 ·obtain⟨lo,rfl,gz,cv,l1,l2,l3⟩:=h;have e9:lo=a₀.size:=by omega
  subst e9;refine⟨rfl,gz,cv,?_⟩;rcases l3 with⟨z,_⟩ |⟨_,z⟩
  ·omega
  ·exact z
 ·obtain⟨rfl,gz,cv,hz1⟩:=h;dsimp only
  refine wpS_bind (wpS_mono (wpS_forRange (I:=λx c z=>c=(none,())/\SG kd a₀ z/\Cov κ (arrOf z) 0 (pendingOf z).toList a₀.size/\(pendingOf z).size<=1)
   (Q:=λc z=>c=(none,())/\SG kd a₀ z/\Cov κ (arrOf z) 0 (pendingOf z).toList a₀.size/\(pendingOf z).size<=1) (λx c z hx1 hx2 h=>?_) (λc z h=>h) ⟨rfl,gz,cv,hz1⟩) (λc z h=>?_))
  ·obtain⟨rfl,gz,cv,hz⟩:=h;refine wpS_bind (wpS_get ?_);exact yi (λc=>wpS_pure ⟨rfl,gz,cv,c⟩) (λc=>absurd hz c)
  ·obtain⟨rfl,gz,cv,hz⟩:=h;refine wpS_pure (q z gz λi j a b=>?_)
   have:∀l:List (Nat×Nat×Nat),l.length<=1->Cov κ (arrOf z) 0 l a₀.size->Up κ (arrOf z) 0 a₀.size:=by
    intro l hl c
    match l,hl,c with
    |[],_,c=>have:0=a₀.size:=c;omega
    |[(b,n,p)],_,c=>
     obtain⟨_,_,u,e⟩:=c;have e':0+n=a₀.size:=e;rw[Nat.zero_add]at e';rw[<-e'];exact u
   exact this _ (by simpa using hz) cv i j (Nat.zero_le _) a (by omega)
end
section
variable {prog:Program}{w:World}{A:Around}{E:Value->Shared->Prop}{s:Shared}
theorem zh4{κ:KeyKind}{kd:SortKind}{a:Addr}{vs:List Value}{n:Nat}{P:Fin->Shared->Prop}(ho:s.heap.get? a=some (seqObj "list" vs.toArray n))(hz:vs.length<=sizeLine)(h64:vs.length<64)
  (L:∀h':Heap,(∀b o,b≠a->s.heap.get? b=some o->h'.get? b=some o)->km prog w A { s with heap:=h' } κ kd) (h0:KeysOf κ (pairsOf vs))
  (hkk:2<=vs.length->∀(h':Heap) (Q:SortKind->Shared->Prop),(∀b o,b≠a->s.heap.get? b=some o->h'.get? b=some o)->Q kd { s with heap:=h' }->wpAny (model prog w) A (keyKind' vs.toArray) Q E { s with heap:=h' })
  (h:∀out:Array Keyed,out.Perm (pairsOf vs)->SortedToK κ out (pairsOf vs).size->P (.done (.ret .none)) { s with heap:=sortedHeap s.heap a vs (out.map (·.2)) }) :
  wpAny (model prog w) A (Builtin.«list.sort» ⟨[.ref a],[]⟩) P E s:=by
 rw[list_sort_plain];have la:a<s.heap.objs.size:=Heap.lt_size ho;refine wpAny_bind (listItems_at ho rfl ?_);refine wpAny_bind (listUpdate_at ho rfl ?_ (by simpa using hz) (Nat.zero_le _));obtain⟨e1,g1⟩:∃e1,(s.heap.update a (Obj.mapSeq λ_=>#[])).get? a=some (seqObj "list" #[] e1):=⟨_,get?_update_seq ho (λ_=>#[])⟩
 refine wpAny_bind (seqEpoch_at g1 rfl ?_);refine wpAny_bind (wpAny_newTuple ?_ (by simpa using hz));refine wpAny_bind (wpAny_newList ?_ (Nat.zero_le _));refine wpAny_holding ?_;have g6:(((s.heap.update a (Obj.mapSeq λ_=>#[])).push (seqObj "tuple" vs.toArray 0)).push (seqObj "list" #[] 0)).get? a=some (seqObj "list" #[] e1):=Heap.get?_push_of_some _ (Heap.get?_push_of_some _ g1);have keep:∀b o,b≠a->s.heap.get? b=some o->(((s.heap.update a (Obj.mapSeq λ_=>#[])).push (seqObj "tuple" vs.toArray 0)).push (seqObj "list" #[] 0)).get? b=some o:=λb o nb e=>Heap.get?_push_of_some _ (Heap.get?_push_of_some _ (by rw[Heap.get?_update_ne _ _ _ _ nb];exact e));show wpAny (model prog w) A _ P E { s with heap:=((s.heap.update a (Obj.mapSeq λ_=>#[])).push (seqObj "tuple" vs.toArray 0)).push (seqObj "list" #[] 0) };dsimp only;have sz:vs.toArray.size=vs.length:=by simp
 by_cases c:vs.toArray.size<2
 ·rw[if_pos c,if_pos c];refine wpAny_bind (wpAny_pure ?_);rw[StateT.run_pure];refine wpAny_bind (wpAny_pure ?_);dsimp only;refine wpAny_bind (seqEpoch_at g6 rfl ?_);refine wpAny_bind (listUpdate_at g6 rfl ?_ (Nat.zero_le _) (by show(Array.map _ (pairsOf vs)).size<=_;rw[Array.size_map,pairsOf_size,sizeLine_eq];omega));simp only[bne_self_eq_false,Bool.false_eq_true,if_false];refine wpAny_pure (h (vs.toArray.zip vs.toArray) (Array.Perm.refl _) λi j hij hj=>?_);have:i=j:=by rw[pairsOf_size]at hj;omega
  subst this;exact KeyOrd.kle_refl _
 ·rw[if_neg c,if_neg c];refine wpAny_bind (hkk (by omega) _ _ keep ?_)
  refine wpAny_bind (wpAny_mono (zh3 (κ:=κ) (kd:=kd) (a₀:=pairsOf vs) (st:=SortSt.mk' kd (vs.toArray.zip vs.toArray) #[] 7 none)
   (Q:=λ_ st'=>(arrOf st').Perm (pairsOf vs)/\failedOf st'=none/\SortedToK κ (arrOf st') (pairsOf vs).size) (L _ keep)
   h0 ⟨Array.Perm.refl _,rfl,rfl⟩ rfl (by rw[pairsOf_size];omega) (by rw[pairsOf_size];exact h64) λst' g' s'=>⟨g'.perm,g'.fail,s'⟩) ?_ λ_ _ e=>e)
  rintro ⟨⟨⟩,st'⟩ s' ⟨rfl,hp,hf,hs⟩;dsimp only;refine wpAny_bind (seqEpoch_at g6 rfl ?_);refine wpAny_bind (listUpdate_at g6 rfl ?_ (Nat.zero_le _) (by
   show(Array.map _ (arrOf st')).size<=_;rw[Array.size_map,hp.size_eq,pairsOf_size];omega))
  rw[hf];simp only[bne_self_eq_false,Bool.false_eq_true,if_false];exact wpAny_pure (h (arrOf st') hp hs)
theorem zfz{κ:KeyKind}{kd:SortKind}{l:Addr}{T:String}{o:Obj}{vs:List Value}{n:Nat}{Q:Value->Shared->Prop}(hT:T = "list" \/ T = "tuple")(ho:s.heap.get? l=some o)(hc:o.cls=.type T)(hd:o.data=.seq vs.toArray n)(hz:vs.length<=sizeLine)(h64:vs.length<64)
  (L:∀(A':Around) (h':Heap),A'.units<=A.units+8->(∀b o,s.heap.get? b=some o->h'.get? b=some o)->km prog w A' { s with heap:=h' } κ kd) (h0:KeysOf κ (pairsOf vs))
  (hkk:2<=vs.length->∀(A':Around) (E':Value->Shared->Prop) (h':Heap) (Q:SortKind->Shared->Prop),(∀b o,s.heap.get? b=some o->h'.get? b=some o)->Q kd { s with heap:=h' }->wpAny (model prog w) A' (keyKind' vs.toArray) Q E' { s with heap:=h' })
  (h:∀(out:Array Keyed) (h':Heap) (r:Addr) (e:Nat),out.Perm (pairsOf vs)->SortedToK κ out (pairsOf vs).size->s.heap.objs.size<=r->h'.get? r=some (seqObj "list" (out.map (·.2)) e)->(∀b o,s.heap.get? b=some o->h'.get? b=some o)->Q (.ref r) { s with heap:=h' }) :
  wpAny (model prog w) A (call (.builtin "sorted") [.ref l]) Q E s:=by
 refine Calls.call_function_entry kind_sorted plain_sorted entry_sorted (args_sorted1 _) ?_;unfold Builtin.«sorted»;refine wpAny_bind (m:=checkCount "sorted" 1 1 _) (wpAny_pure ?_);refine wpAny_bind (zft hT ho hc hd (by simpa using hz) ?_);rw[List.toList_toArray];refine wpAny_bind (wpAny_newList ?_ hz);have es:((s.heap.push (seqObj "list" #[] 0)).update s.heap.objs.size (Obj.mapSeq (·++vs.toArray))).objs.size=s.heap.objs.size+1:=by rw[Heap.size_update,size_push']
 have gL:(((s.heap.push (seqObj "list" #[] 0)).update s.heap.objs.size (Obj.mapSeq (·++vs.toArray))).push (seqObj "list" vs.toArray 0)).get? (s.heap.objs.size+1)=some (seqObj "list" vs.toArray 0):=by rw[<-es];exact Heap.get?_push_size _ rfl
 have k2:∀b o,s.heap.get? b=some o->(((s.heap.push (seqObj "list" #[] 0)).update s.heap.objs.size (Obj.mapSeq (·++vs.toArray))).push (seqObj "list" vs.toArray 0)).get? b=some o:=λb o e=>
  Heap.get?_push_of_some _ (by rw[Heap.get?_update_ne _ _ _ _ (Nat.ne_of_lt (Heap.lt_size e))];exact Heap.get?_push_of_some _ e)
 have nb:∀b o,s.heap.get? b=some o->b≠s.heap.objs.size+1:=λb o e=>Nat.ne_of_lt (Nat.lt_succ_of_lt (Heap.lt_size e));show wpAny _ _ _ _ _ { s with heap:=((s.heap.push (seqObj "list" #[] 0)).update s.heap.objs.size (Obj.mapSeq (·++vs.toArray))).push (seqObj "list" vs.toArray 0) };rw[es];refine wpAny_bind (wpAny_holding (wpAny_call_entry slot_list_sort ⟨_,gL,rfl⟩ entry_list_sort (zh4 (κ:=κ) (kd:=kd) gL hz h64 (λh' k'=>L _ h' (zk8 A) λb o e=>k' b o (nb b o e) (k2 b o e)) h0 (λh2 h' Q k' q=>hkk h2 _ _ h' Q (λb o e=>k' b o (nb b o e) (k2 b o e)) q) λout p1 p2=>⟨_,rfl,?_⟩) (args_list_sort _)));refine wpAny_pure ⟨_,rfl,?_⟩;obtain⟨e,he⟩:=sortedAll_at s.heap vs (out.map (·.2));exact h out _ _ e p1 p2 (Nat.le_succ _) he λb o z=>sortedAll_old z
end
end SQ
namespace L2
open PySem PySem.Spec PyProof.Rows SQ
section
variable {X:Cx}
theorem zd9{pins:List (Addr×Obj)}{σ:St}{H:Hp}{s:Shared}{Q:List D->Prop}{xs:List D}{vs:List V}{us:List Value}{a:Addr}{T:String}{o:Obj}{n:Nat}(I:Inv X pins σ H s)(r:Reps X.K H xs vs)(rv:Vals vs us)(hT:T = "list" \/ T = "tuple")(ho:s.heap.get? a=some o)(hc:o.cls=.type T)(hd:o.data=.seq us.toArray n)(hz:vs.length<=sizeLine)(h64:vs.length<64)(q:zcg xs Q):
  wpAny (model X.prog X.w) X.A (call (.builtin "sorted") [.ref a]) (zdx X pins σ H Q) X.xe s:=by
 have zu:us.length<=sizeLine:=by rw[<-rv.length];exact hz
 have fin:∀(out:Array Keyed) (h':Heap) (p:Addr) (e:Nat) (ys:List D) (vs':List V),(out.map (·.2)).toList.Perm us->Vals vs' (out.map (·.2)).toList->Reps X.K H ys vs'->s.heap.objs.size<=p->h'.get? p=some (seqObj "list" (out.map (·.2)) e)->(∀b o,s.heap.get? b=some o->h'.get? b=some o)->Q ys->zdx X pins σ H Q (.ref p) { s with heap:=h' }:=by
  intro out h' p e ys vs' pm rv' r' hp g k qy;have hn:=I.hok.fresh hp;have lv:vs'.length<=sizeLine:=by rw[rv'.length,pm.length_eq];exact zu
  exact⟨p,_,vs',ys,rfl,I.laid (t':=s.toks) (o:=.lst vs') k hp ⟨lv,(out.map (·.2)).toList,e,rv',g⟩,yk hn _,hn,z9,r'.same (yk hn _),qy⟩
 rcases q with⟨ns,rfl,q⟩ |⟨tss,rfl,hne,q⟩
 ·have e1:=Reps.of_ints r;subst e1;have hi:=v3 rv
  have hk:∀v∈us,∃k,intK.keyOf v=some k:=λv hv=>by
   obtain⟨i,t,rfl⟩:=hi.all v hv;exact⟨i,rfl⟩
  refine zfz (κ:=intK) (kd:=oneType') hT ho hc hd zu (by rw[<-rv.length];exact h64) (λA' h' _ _=>zk9) (qj hk) (λh2 A' E' h' Q' k q=>?_) λout h' p e p1 p2 hp g k=>?_
  ·cases us with
   |nil=>simp at h2
   |cons u us=>
    cases us with
    |nil=>simp at h2
    |cons u2 us=>rw[keyKind_ints hi];exact wpAny_pure q
  ·obtain⟨pm,ks,a2,pw⟩:=zas p1 p2 hk;obtain⟨vs',ds',rv',r',pd⟩:=zat pm rv r;obtain⟨ms,rfl,pms⟩:=zbx deI zld pd;have e2:=Reps.of_ints r';subst e2
   have ek:ks=ms:=by
    have hm:=v3 rv';clear pm pms pw pd r' rv';generalize (out.map (·.2)).toList=l at hm a2
    induction a2 generalizing ms with
    |nil=>cases hm;rfl
    |cons h t ih=>
     cases hm with
     |cons i t' h'=>
      simp only[intK,Option.some.injEq]at h;subst h;rw[ih _ h']
   subst ek;have:=zd7 pms (pw.imp λh=>by simpa[intK,KeyOrd.kle]using h);exact fin out h' p e _ _ pm rv' r' hp g k (by rw[this];exact q)
 ·have rf:=zbw I r rv
  have hk:∀v∈us,∃k,(zfb s.heap).keyOf v=some k:=λv hv=>by
   obtain⟨t,_,h⟩:=rf.mem hv;exact⟨t,zar h⟩
  refine zfz (κ:=zfb s.heap) (kd:=tuples' true) hT ho hc hd zu (by rw[<-rv.length];exact h64) (λA' h' _ k=>zlb k) (qj hk) (λh2 A' E' h' Q' k q=>zfw (rf.imp λ_ _ h=>h.keep k) hne h2 q) λout h' p e p1 p2 hp g k=>?_;obtain⟨pm,ks,a2,pw⟩:=zas p1 p2 hk;obtain⟨vs',ds',rv',r',pd⟩:=zat pm rv r;obtain⟨ss,rfl,pms⟩:=zbx deT zo7 pd;have rf':=zbw I r' rv';have ek:ks=ss:=by
   clear pm pms pw r' rv' pd;generalize (out.map (·.2)).toList=l at rf' a2
   induction a2 generalizing ss with
   |nil=>cases rf';rfl
   |cons h t ih=>
    cases rf' with
    |cons h1 t1=>
     have:=zar h1;rw[show(zfb s.heap).keyOf _=za8 s.heap _ from rfl,this]at h
     cases h;rw[ih _ t1]
  subst ek;have:=za9 pms (pw.imp λh=>by simpa[zfb,KeyOrd.kle]using h);exact fin out h' p e _ _ pm rv' r' hp g k (by rw[this];exact q)
def zjz:List D->(List D->Prop)->Prop
 |[.list xs],Q=>xs.length<64/\zcg xs Q
 |[.tuple xs],Q=>xs.length<64/\zcg xs Q
 |_,_=>False
theorem zgw:CallF X (.builtin "sorted") zjz:=⟨λpins s σ H vs us ds Q I rv rd q=>by
 match ds,q,rd with
 |[.list xs],q,rd=>
  obtain⟨v,rfl,r⟩:=rd.one;obtain⟨a,vs,rfl,h,r⟩:=r.list.sq;obtain⟨u,rfl,r1⟩:=rv.one
  cases r1;obtain⟨its,rvs,pl,hz⟩:=I.list h;obtain⟨o,ho,hc,n,hd⟩:=pl.isList;exact zd9 I r rvs (.inl rfl) ho hc hd hz (by rw[<-r.length];exact q.1) q.2
 |[.tuple xs],q,rd=>
  obtain⟨v,rfl,r⟩:=rd.one;obtain⟨a,vs,rfl,h,r⟩:=r.tuple;obtain⟨u,rfl,r1⟩:=rv.one
  cases r1;obtain⟨its,rvs,⟨o,ho,hc,n,hd⟩,hz⟩:=I.tuple h;exact zd9 I r rvs (.inr rfl) ho hc hd hz (by rw[<-r.length];exact q.1) q.2⟩
end
end L2
namespace L2
open PySem PySem.Spec PyProof.Rows
theorem vf(n:Int)(j:Nat):y3 n (j+1)=.int n::y3 (n+1) j:=by
 unfold y3;rw[List.range_succ_eq_map,List.map_cons,List.map_map];refine List.cons_eq_cons.mpr ⟨by simp,List.map_congr_left λi _=>?_⟩;show PyData.int (n+((i+1:Nat):Int))=PyData.int (n+1+(i:Nat));congr 1;omega
end L2
namespace L2
open PySem PySem.Spec PyProof.Rows PySem.Builtin PySem.Builtin.Str
def tx(x:Str):List Nat:=x.cps.toList
end L2
namespace L2
open PySem PySem.Spec PyProof.Rows
section
variable {K:PySem.W.Frag}{H₀ H H':Hp}{σD:DSt}{σ:St}
theorem DOk.setF{H1:Hp}(h:DOk K H₀ H1 σD σ)(s1:Same H1 H){o:O}{v:V}{f:List Addr}(n:∀a∈f,H1 a=none)(nf:f.Nodup)(r:RepO K H o v f)(i:Nat):DOk K H₀ H (σD.set i (some (.own o))) (σ.set i (some v)):=by
 obtain⟨s,fp,sl,nd,fr⟩:=id h;have lv:∀b∈fp,∀a∈f,b≠a:=λb hb a ha z=>by
  obtain⟨u,e1,_⟩:=sl.live b hb;rw[z,n a ha]at e1;cases e1
 obtain⟨s',fp',sl',_⟩:=id (h.after s1);have sl2:Slots K H₀ H σD σ fp:=sl.keep s1.pers (λh=>h.same s1) λb _ u e=>s1 b u e
 by_cases hi:i<σD.length
 ·obtain⟨g,g',e',sb⟩:=sl2.set (f:=f) (w:=some (.own o)) (v:=some v) (λt=>.own r t) i hi;refine⟨s',_,e',?_,λb hb=>?_⟩
  ·have nd2:=sb.nodup nd;rw[List.nodup_append]at nd2 ⊢;refine⟨nd2.1,?_,λx hx y hy=>?_⟩
   ·rw[List.nodup_append];exact⟨nf,nd2.2.1,λx hx y hy z=>lv y (sb.subset (List.mem_append_right _ hy)) x hx z.symm⟩
   ·rcases List.mem_append.mp hy with z|z
    ·exact lv x (sb.subset (List.mem_append_left _ hx)) y z
    ·exact nd2.2.2 x hx y z
  ·rcases List.mem_append.mp hb with z|z
   ·exact fr b (sb.subset (List.mem_append_left _ z))
   ·rcases List.mem_append.mp z with z|z
    ·cases q:H₀ b with
     |none=>rfl
     |some u=>have:=n b z;rw[s b u q]at this;cases this
    ·exact fr b (sb.subset (List.mem_append_right _ z))
 ·rw[List.set_eq_of_length_le (by omega),List.set_eq_of_length_le (by rw[<-sl2.length];omega)];exact⟨s',fp,sl2,nd,fr⟩
end
end L2
namespace L2
open PySem PySem.Spec PyProof.Rows PySem.W
theorem dseq_by{t R:DTS}{Dn:jf}{σ:DSt}(P:DSt->Prop)(h:∀N:DSt->Prop,(∀σ',P σ'->N σ')->t { Dn with nx:=N } σ)(k:∀σ',P σ'->R Dn σ'):zoj t R Dn σ:=h _ k
end L2
namespace L2
open PySem PySem.Spec PyProof.Rows
section
variable {K:PySem.W.Frag}{H₀ H:Hp}{σD:DSt}{σ:St}
theorem Slots.focus{fp:List Addr}(h:Slots K H₀ H σD σ fp){i:Nat}{o:O}(e:σD[i]?=some (some (.own o))):
  ∃v f g g',σ[i]?=some (some v)/\RepO K H o v f/\fp=g++(f++g')/\∀H' o' f',Pers H H'->(∀a,a∈g++g'->∀u,H a=some u->H' a=some u)->RepO K H' o' v f'->Slots K H₀ H' (clr (σD.set i (some (.own o')))) σ (g++(f'++g')):=by
 induction h generalizing i with
 |nil=>simp at e
 |none t ih=>
  cases i with
  |zero=>simp at e
  |succ i=>obtain⟨v,f,g,g',h1,h2,h3,h4⟩:=ih (i:=i) (by simpa using e);exact⟨v,f,g,g',by simpa using h1,h2,h3,λH' o' f' p k r=>.none (h4 H' o' f' p k r)⟩
 |val q t ih=>
  cases i with
  |zero=>simp at e
  |succ i=>obtain⟨v,f,g,g',h1,h2,h3,h4⟩:=ih (i:=i) (by simpa using e);exact⟨v,f,g,g',by simpa using h1,h2,h3,λH' o' f' p k r=>.val (q.mono p) (h4 H' o' f' p k r)⟩
 |vw q t ih=>
  cases i with
  |zero=>simp at e
  |succ i=>obtain⟨v,f,g,g',h1,h2,h3,h4⟩:=ih (i:=i) (by simpa using e);exact⟨v,f,g,g',by simpa using h1,h2,h3,λH' o' f' p k r=>.vw q (h4 H' o' f' p k r)⟩
 |vd q t ih=>
  cases i with
  |zero=>simp at e
  |succ i=>obtain⟨v,f,g,g',h1,h2,h3,h4⟩:=ih (i:=i) (by simpa using e);exact⟨v,f,g,g',by simpa using h1,h2,h3,λH' o' f' p k r=>.vd q (h4 H' o' f' p k r)⟩
 |exc q t ih=>
  cases i with
  |zero=>simp at e
  |succ i=>obtain⟨v,f,g,g',h1,h2,h3,h4⟩:=ih (i:=i) (by simpa using e);exact⟨v,f,g,g',by simpa using h1,h2,h3,λH' o' f' p k r=>.exc q (h4 H' o' f' p k r)⟩
 |scr q t ih=>
  cases i with
  |zero=>simp at e
  |succ i=>obtain⟨v,f,g,g',h1,h2,h3,h4⟩:=ih (i:=i) (by simpa using e);exact⟨v,f,g,g',by simpa using h1,h2,h3,λH' o' f' p k r=>.scr q (h4 H' o' f' p k r)⟩
 |pen q t ih=>
  cases i with
  |zero=>simp at e
  |succ i=>obtain⟨v,f,g,g',h1,h2,h3,h4⟩:=ih (i:=i) (by simpa using e);exact⟨v,f,g,g',by simpa using h1,h2,h3,λH' o' f' p k r=>.pen (p _ _ q rfl) (h4 H' o' f' p k r)⟩
 |tmp q t ih=>
  cases i with
  |zero=>simp at e
  |succ i=>obtain⟨v,f,g,g',h1,h2,h3,h4⟩:=ih (i:=i) (by simpa using e);exact⟨v,f,g,g',by simpa using h1,h2,h3,λH' o' f' p k r=>.none (h4 H' o' f' p k r)⟩
 |@own o0 v0 f0 ws wvs fp' q t ih=>
  cases i with
  |zero=>
   simp at e;subst e;refine⟨v0,f0,[],fp',rfl,q,rfl,λH' o' f' p k r=>?_⟩;rw[List.nil_append];exact .own r (t.keepC p λa ha u hu=>k a ha u hu)
  |succ i=>
   obtain⟨v,f,g,g',h1,h2,h3,h4⟩:=ih (i:=i) (by simpa using e);refine⟨v,f,f0++g,g',by simpa using h1,h2,by rw[h3,List.append_assoc],λH' o' f' p k r=>?_⟩;rw[List.append_assoc];refine .own (q.keep p λa ha u hu=>k a ?_ u hu) (h4 H' o' f' p (λa ha u hu=>k a ?_ u hu) r)
   ·exact List.mem_append_left _ (List.mem_append_left _ ha)
   ·rcases List.mem_append.mp ha with z|z
    ·exact List.mem_append_left _ (List.mem_append_right _ z)
    ·exact List.mem_append_right _ z
theorem DOk.focus(h:DOk K H₀ H σD σ){i:Nat}{o:O}(e:σD[i]?=some (some (.own o))):
  ∃v f,σ[i]?=some (some v)/\RepO K H o v f/\f.Nodup/\(∀a∈f,H₀ a=none)/\∀H' o' f',(∀a u,a∉f->H a=some u->H' a=some u)->f'.Nodup->(∀a∈f',a∈f\/H a=none)->RepO K H' o' v f' ->
   DOk K H₀ H' (clr (σD.set i (some (.own o')))) σ/\Pers H H':=by
 obtain⟨s,fp,sl,nd,fr⟩:=h;obtain⟨v,f,g,g',h1,h2,rfl,h4⟩:=sl.focus e;have nd':=nd;rw[List.nodup_append,List.nodup_append]at nd';obtain⟨ng,⟨nf,ng',dfg'⟩,dg⟩:=nd';have inf:∀a∈f,a∈g++(f++g'):=λa ha=>List.mem_append_right _ (List.mem_append_left _ ha);refine⟨v,f,h1,h2,nf,λa ha=>fr a (inf a ha),λH' o' f' k nf' hf' r=>?_⟩;have pr:Pers H H':=λa u ha hp=>k a u (λz=>by obtain⟨w,e1,e2⟩:=h2.live a z;rw[ha]at e1;cases e1;rw[e2]at hp;cases hp) ha;have off:∀a,a∈g++g'->a∉f:=λa ha z=>by
  rcases List.mem_append.mp ha with y|y
  ·exact dg a y a (List.mem_append_left _ z) rfl
  ·exact dfg' a z a y rfl
 have lv:∀a,a∈g++g'->H a≠none:=λa ha z=>by
  obtain⟨w,e1,_⟩:=sl.live a (by rcases List.mem_append.mp ha with y|y;exact List.mem_append_left _ y;exact List.mem_append_right _ (List.mem_append_right _ y));rw[z]at e1
  cases e1
 refine⟨⟨λa u ha=>k a u (λz=>by rw[fr a (inf a z)]at ha;cases ha) (s a u ha),_,h4 H' o' f' pr (λa ha u hu=>k a u (off a ha) hu) r,?_,λa ha=>?_⟩,pr⟩
 ·have nq:∀x∈g++g',∀y∈f',x≠y:=λx hx y hy z=>by
   subst z;rcases hf' x hy with q|q
   ·exact off x hx q
   ·exact lv x hx q
  rw[List.nodup_append,List.nodup_append];refine⟨ng,⟨nf',ng',λx hx y hy z=>nq y (List.mem_append_right _ hy) x hx z.symm⟩,λx hx y hy=>?_⟩;rcases List.mem_append.mp hy with q|q
  ·exact nq x (List.mem_append_left _ hx) y q
  ·exact dg x hx y (List.mem_append_right _ q)
 ·rcases List.mem_append.mp ha with q|q
  ·exact fr a (List.mem_append_left _ q)
  ·rcases List.mem_append.mp q with q|q
   ·rcases hf' a q with z|z
    ·exact fr a (inf a z)
    ·cases y:H₀ a with
     |none=>rfl
     |some u=>rw[s a u y]at z;cases z
   ·exact fr a (List.mem_append_right _ (List.mem_append_right _ q))
def O.bare:O->O
 |.anc _ o=>o.bare
 |o=>o
def O.with:O->O->O
 |.anc a o,o'=>.anc a (o.with o')
 |_,o'=>o'
theorem RepO.bare{o:O}{v:V}{f:List Addr}(h:RepO K H o v f):RepO K H o.bare v f:=by
 induction o with
 |anc a o ih=>exact ih h.2
 |_=>exact h
theorem RepO.ref{o:O}{v:V}{f:List Addr}(h:RepO K H o v f):∃a,v=.ref a:=by
 induction o with
 |anc a o ih=>exact⟨a,h.1⟩
 |lst xs=>obtain⟨a,_,e,_⟩:=h;exact⟨a,e⟩
 |dct xs=>obtain⟨a,_,e,_⟩:=h;exact⟨a,e⟩
 |nst xs ds=>obtain⟨a,_,_,e,_⟩:=h;exact⟨a,e⟩
 |ins c fs=>obtain⟨a,_,_,_,e,_⟩:=h;exact⟨a,e⟩
 |mix ms=>obtain⟨a,_,_,e,_⟩:=h;exact⟨a,e⟩
theorem RepO.with{H':Hp}{o o':O}{v:V}{f f':List Addr}(h:RepO K H o v f)(h':RepO K H' o' v f'):RepO K H' (o.with o') v f':=by
 induction o with
 |anc a o ih=>exact⟨h.1,ih h.2⟩
 |_=>exact h'
end
def zby(f:List Addr)(H:Hp):Hp:=λa=>if a∈f then none else H a
theorem zau{f:List Addr}{H:Hp}{a:Addr}(h:a∈f):zby f H a=none:=if_pos h
theorem qk{f:List Addr}{H:Hp}{a:Addr}(h:a∉f):zby f H a=H a:=if_neg h
theorem zch{f:List Addr}{H:Hp}:Same (zby f H) H:=λa u h=>by
 by_cases z:a∈f
 ·rw[zau z]at h;cases h
 ·rw[qk z]at h;exact h
theorem zf0{K:PySem.W.Frag}{o:O}{v:V}{f:List Addr}{H:Hp}(r:RepO K H o v f):Pers H (zby f H):=λa u h p=>by
 rw[qk]
 ·exact h
 ·intro z;obtain⟨w,e1,e2⟩:=r.live a z;rw[h]at e1
  cases e1;rw[e2]at p
  cases p
def W.plain:W->Bool
 |.val _=>true
 |.pen=>true
 |_=>false
theorem RepWs.mono{K:PySem.W.Frag}{H H':Hp}(p:Pers H H'){ws:List W}{vs:List V}(h:∀w∈ws,w.plain=true)(q:RepWs K H ws vs):RepWs K H' ws vs:=by
 induction q with
 |nil=>exact .nil
 |@cons w _ _ _ r t ih=>
  refine .cons ?_ (ih λx hx=>h x (List.mem_cons_of_mem _ hx));have:=h w List.mem_cons_self
  cases w with
  |val d=>exact Rep.mono p r
  |pen=>obtain⟨a,rfl,r⟩:=r;exact⟨a,rfl,p _ _ r rfl⟩
  |_=>cases this
abbrev zci:=List W->O->List W->(D->O->Prop)->Prop
def zle(K:PySem.W.Frag)(sp:zci):Sp:=λvs H Q _=>∃vp a vq ws o wq QD H₀ f,vs=vp ++ .ref a::vq/\RepWs K H₀ ws vp/\RepWs K H₀ wq vq/\RepO K H o (.ref a) f/\f.Nodup/\(∀b∈f,H₀ b=none)/\Same H₀ H/\sp ws o wq QD /\
 ∀v H' d o' f',Same H₀ H'->Rep K H' d v->RepO K H' o' (.ref a) f'->f'.Nodup->(∀b∈f',H₀ b=none)->QD d o'->Q v H'
structure zf1 where
 nx:DSt->Prop
 rt:D->DSt->Prop
 bk:DSt->Prop:=λ_=>False
 ct:DSt->Prop:=λ_=>False
abbrev GTS:=zf1->DSt->Prop
def zh5(K:PySem.W.Frag)(H₀ H:Hp)(Gn:zf1):ziv where
 nx:=λσ' H'=>∃σD',DOk K H₀ H' σD' σ'/\Pers H H'/\Gn.nx σD'
 bk:=λσ' H'=>∃σD',DOk K H₀ H' σD' σ'/\Pers H H'/\Gn.bk σD'
 ct:=λσ' H'=>∃σD',DOk K H₀ H' σD' σ'/\Pers H H'/\Gn.ct σD'
 rt:=λv H'=>∃σ' σD' d,DOk K H₀ H' σD' σ'/\Rep K H' d v/\Gn.rt d σD'
structure DGS(X:Cx)(st:Stmt)(t:GTS):Prop where
 run:∀(pins:List (Addr×Obj)) (s:Shared) (σ:St) (H H₀:Hp) (σD:DSt) (Gn:zf1),Inv X pins σ H s->DOk X.K H₀ H σD σ->t Gn σD->wpAny (model X.prog X.w) X.A (exec st X.env) (SP X pins (zh5 X.K H₀ H Gn)) X.xe s
structure DGSs(X:Cx)(st:List Stmt)(t:GTS):Prop where
 run:∀(pins:List (Addr×Obj)) (s:Shared) (σ:St) (H H₀:Hp) (σD:DSt) (Gn:zf1),Inv X pins σ H s->DOk X.K H₀ H σD σ->t Gn σD->wpAny (model X.prog X.w) X.A (execs st X.env) (SP X pins (zh5 X.K H₀ H Gn)) X.xe s
theorem SP.backG{X:Cx}{pins:List (Addr×Obj)}{H₀ H H1:Hp}{Gn:zf1}{f:Flow}{s':Shared}(p:Pers H H1)(h:SP X pins (zh5 X.K H₀ H1 Gn) f s'):SP X pins (zh5 X.K H₀ H Gn) f s':=by
 cases f with
 |next=>obtain⟨a,b,e1,c,e2,e3,e4⟩:=h;exact⟨a,b,e1,c,e2,p.trans e3,e4⟩
 |brk=>obtain⟨a,b,e1,c,e2,e3,e4⟩:=h;exact⟨a,b,e1,c,e2,p.trans e3,e4⟩
 |cont=>obtain⟨a,b,e1,c,e2,e3,e4⟩:=h;exact⟨a,b,e1,c,e2,p.trans e3,e4⟩
 |ret u=>exact h
section
variable {X:Cx}{st:Stmt}{sts rest:List Stmt}{t u:GTS}{e:Expr}{te:DTE}{pos:Pos}
theorem DGS.of{t':TS}(h:PS X st t')(k:∀σ H H₀ σD Gn,DOk X.K H₀ H σD σ->t Gn σD->t' (zh5 X.K H₀ H Gn) σ H):DGS X st t :=
 ⟨λpins s σ H H₀ σD Gn I ok q=>h pins s σ H _ I (k σ H H₀ σD Gn ok q)⟩
def zxf(K:PySem.W.Frag)(t:GTS):TS:=λE σ H=>∃H₀ σD Gn,DOk K H₀ H σD σ/\t Gn σD/\(∀σ' H' σD',DOk K H₀ H' σD' σ'->Pers H H'->Gn.nx σD'->E.nx σ' H')/\(∀v H' σ' σD' d,DOk K H₀ H' σD' σ'->Rep K H' d v->Gn.rt d σD'->E.rt v H') /\
 (∀σ' H' σD',DOk K H₀ H' σD' σ'->Pers H H'->Gn.bk σD'->E.bk σ' H')/\∀σ' H' σD',DOk K H₀ H' σD' σ'->Pers H H'->Gn.ct σD'->E.ct σ' H'
theorem DGSs.ps(h:DGSs X sts t):PSs X sts (zxf X.K t):=by
 intro pins s σ H E I zz;obtain⟨H₀,σD,Gn,ok,q,k1,k2,k3,k4⟩:=zz;refine thn (h.run pins s σ H H₀ σD Gn I ok q) λf s' z=>?_
 cases f with
 |next=>obtain⟨a,b,e1,c,e2,e3,e4⟩:=z;exact⟨a,b,e1,k1 a b c e2 e3 e4⟩
 |brk=>obtain⟨a,b,e1,c,e2,e3,e4⟩:=z;exact⟨a,b,e1,k3 a b c e2 e3 e4⟩
 |cont=>obtain⟨a,b,e1,c,e2,e3,e4⟩:=z;exact⟨a,b,e1,k4 a b c e2 e3 e4⟩
 |ret u=>obtain⟨v,a,b,e1,e2,σ',σD',d,e3,e4,e5⟩:=z;exact⟨v,a,b,e1,e2,k2 v b σ' σD' d e3 e4 e5⟩
def zpb(t:DTS):GTS:=λGn σ=>t { nx:=Gn.nx,rt:=λ_=>False,bk:=Gn.bk,ct:=Gn.ct } σ
theorem zba{t:DTS}(h:DS X st t):DGS X st (zpb t):=⟨λpins s σ H H₀ σD Gn I ok q=>thn (h.run pins s σ H H₀ σD _ I ok q) λf s' z=>by
 cases f with
 |next=>obtain⟨a,b,c,e1,e2,e3,e4⟩:=z;exact⟨a,b,e1,c,e2,e3,e4⟩
 |brk=>obtain⟨a,b,c,e1,e2,e3,e4⟩:=z;exact⟨a,b,e1,c,e2,e3,e4⟩
 |cont=>obtain⟨a,b,c,e1,e2,e3,e4⟩:=z;exact⟨a,b,e1,c,e2,e3,e4⟩
 |ret u=>obtain⟨v,a,b,r,e1,e2,e3,e4,e5⟩:=z;exact e5.elim⟩
def zpc:GTS:=λGn σ=>Gn.nx σ
def zra(t u:GTS):GTS:=λGn σ=>t { Gn with nx:=u Gn } σ
theorem zpd:DGSs X [] zpc:=⟨λ_ _ σ H _ σD _ I ok h=>wpAny_execs_nil ⟨σ,H,I,σD,ok,Pers.refl _,h⟩⟩
theorem vg(h1:DGS X st t)(h2:DGSs X rest u):DGSs X (st::rest) (zra t u):=⟨λpins s σ H H₀ σD Gn I ok q=>by
 refine wpAny_execs_cons (thn (h1.run pins s σ H H₀ σD { Gn with nx:=u Gn } I ok q) λf s1 z=>?_)
 cases f with
 |next=>
  obtain⟨σ',H',I',σD',ok',p,q'⟩:=z;exact thn (h2.run pins s1 σ' H' H₀ σD' Gn I' ok' q') λ_ _ y=>y.backG p
 |ret v=>exact z
 |brk=>exact z
 |cont=>exact z⟩
theorem zh6(h1:DGS X st t):DGSs X [st] t:=⟨λpins s σ H H₀ σD Gn I ok q=>by
 refine wpAny_execs_cons (thn (h1.run pins s σ H H₀ σD Gn I ok q) λf s1 z=>?_)
 cases f with
 |next=>exact wpAny_execs_nil z
 |ret v=>exact z
 |brk=>exact z
 |cont=>exact z⟩
theorem zbz{t u:GTS}{Gn:zf1}{σ:DSt}(M:DSt->Prop)(h1:∀N:DSt->Prop,(∀σ',M σ'->N σ')->t { Gn with nx:=N } σ)(h2:∀σ',M σ'->u Gn σ'):zra t u Gn σ:=h1 _ h2
def zul(te:DTE):GTS:=λGn σ=>te σ λd=>Gn.rt d σ
theorem zlf(he:DE X e te):DGS X (.Return (some e) pos) (zul te) :=
 DGS.of (zb5 he.pe) λσ H H₀ σD Gn ok q=>⟨H₀,σD,_,ok,q,λv H1 d s1 r1 q1=>⟨σ,σD,d,ok.after s1,r1,q1⟩⟩
def gIf(c:DTT)(t u:GTS):GTS:=λGn σ=>c σ λb=>if b=true then t Gn σ else u Gn σ
theorem zum{c:Expr}{a b:List Stmt}{tc:DTT}(hc:DT X c tc)(ha:DGSs X a t)(hb:DGSs X b u):DGS X (.If c a b pos) (gIf tc t u):=⟨λpins s σ H H₀ σD Gn I ok q=>by
 refine wpAny_If (thn (hc.run pins s σ H H₀ σD _ I ok q) λd s1 zr54=>?_);obtain⟨H1,I1,sm,q1⟩:=zr54
 cases d with
 |true=>exact thn (ha.run pins s1 σ H1 H₀ σD Gn I1 (ok.after sm) (by simpa using q1)) λ_ _ z=>z.backG sm.pers
 |false=>exact thn (hb.run pins s1 σ H1 H₀ σD Gn I1 (ok.after sm) (by simpa using q1)) λ_ _ z=>z.backG sm.pers⟩
end
abbrev zay:=DSt->(List W->List W->Prop)->Prop
structure DPG(X:Cx)(i:Nat)(es:List Expr)(t:zay):Prop where
 run:∀(pos:Pos) (pins:List (Addr×Obj)) (s:Shared) (σ:St) (H H₀:Hp) (σD:DSt) (Q:List W->List W->Prop),Inv X pins σ H s->DOk X.K H₀ H σD σ->t σD Q ->
  wpAny (model X.prog X.w) X.A (spliced (backTo pos (starEach es X.env))) (λus s'=>∃vp v vq H' wp wq,Inv X pins σ H' s'/\Vals (vp++v::vq) us/\Same H H'/\σ[i]?=some (some v)/\RepWs X.K H' wp vp/\RepWs X.K H' wq vq/\Q wp wq) X.xe s
section
variable {X:Cx}{e:Expr}{es:List Expr}{k k' i j:Nat}{x:Str}{ps:List Str}{sp:zci}{t:zay}{p pos:Pos}
def zxg(K:PySem.W.Frag)(i:Nat)(t:zay):TA:=λσ H Q=>∃H₀ σD QD,DOk K H₀ H σD σ/\t σD QD/\∀vp v vq H' wp wq,Same H H'->σ[i]?=some (some v)->RepWs K H' wp vp->RepWs K H' wq vq->QD wp wq->Q (vp++v::vq) H'
theorem DPG.pa(h:DPG X i es t):PA X es (zxg X.K i t):=λpos pins s σ H Q I zq62=>by obtain⟨H₀,σD,QD,ok,q,k⟩:=zq62;exact thn (h.run pos pins s σ H H₀ σD QD I ok q) λus s' zq57=>by obtain⟨vp,v,vq,H',wp,wq,I',r,sm,e,r1,r2,qd⟩:=zq57;exact⟨_,H',I',r,k vp v vq H' wp wq sm e r1 r2 qd⟩
def zgx(i:Nat)(r:DTP):zay:=λσ Q=>match σ[i]? with
 |some (some (.own _))=>r σ λwq=>Q [] wq
 |_=>False
theorem zlg(i:Nat){x:Str}{pos:Pos}{r:DTP}(hr:DPs X es r)(hN:X.N[i]?=some x:=by rfl)(hv:Vis X.env.scope x:=by first|exact Or.inl rfl|exact Or.inr (Or.inl rfl)|exact Or.inr (Or.inr rfl))(hd:(x ==("__debug__" : Str))=false:=by decide)
  (hcd:(x ==("__classdict__" : Str))=false:=by decide) (hs:starEach (.Name x pos::es) X.env=(false,eval (.Name x pos) X.env)::starEach es X.env:=by rfl):DPG X i (.Name x pos::es) (zgx i r):=⟨λpos' pins s σ H H₀ σD Q I ok q=>by
 refine thn (xv (wm (i:=i) hN hv hd hcd) hr.pa hs pos' pins s σ H (λvs H'=>∃v vq wq,vs=v::vq/\Same H H'/\σ[i]?=some (some v)/\RepWs X.K H' wq vq/\Q [] wq) I ?_) λus s' zq93=>by obtain⟨vs,H',I',r,v,vq,wq,e1,sm,e2,rp,qd⟩:=zq93;subst e1;exact⟨[],v,vq,H',[],wq,I',r,sm,e2,.nil,rp,qd⟩
 unfold zgx at q
 split at q
 ·next o e=>
  obtain⟨v,f,e1,_⟩:=ok.focus e;exact⟨v,e1,H₀,σD,_,ok,q,λws H2 ds s2 r2 q2=>⟨v,ws,ds,rfl,s2,e1,r2,q2⟩⟩
 ·exact q.elim⟩
def zj0(t:DTE)(r:zay):zay:=λσ Q=>t σ λd=>r σ λwp wq=>Q (.val d::wp) wq
theorem zlh{t:DTE}{r:zay}(ha:DE X e t)(hr:DPG X i es r)(hs:starEach (e::es) X.env=(false,eval e X.env)::starEach es X.env:=by rfl):DPG X i (e::es) (zj0 t r):=⟨λpos pins s σ H H₀ σD Q I ok q=>by
 refine thn (xv ha.pe hr.pa hs pos pins s σ H (λvs H'=>∃vp v vq wp wq,vs=vp++v::vq/\Same H H'/\σ[i]?=some (some v)/\RepWs X.K H' wp vp/\RepWs X.K H' wq vq/\Q wp wq) I ?_) λus s' zq3=>by obtain⟨vs,H',I',r,vp,v,vq,wp,wq,e1,sm,e2,rp,rq,qd⟩:=zq3;subst e1;exact⟨vp,v,vq,H',wp,wq,I',r,sm,e2,rp,rq,qd⟩
 exact⟨H₀,σD,_,ok,q,λv H1 d s1 r1 q1=>⟨H₀,σD,_,ok.after s1,q1,λvp v' vq H2 wp wq s2 e2 r2 r3 q2=>⟨v::vp,v',vq,.val d::wp,wq,rfl,s1.trans s2,e2,.cons (r1.same s2) r2,r3,q2⟩⟩⟩⟩
def zcj(K:PySem.W.Frag)(i:Nat)(sp:zci)(t:zay):TE:=λσ H Q=>∃H₀ σD o QD,DOk K H₀ H σD σ/\σD[i]?=some (some (.own o))/\t σD (λwp wq=>wp.all W.plain=true/\wq.all W.plain=true/\sp wp o.bare wq QD) /\
 ∀v H' d o',DOk K H₀ H' (clr (σD.set i (some (.own (o.with o'))))) σ->Pers H H'->Rep K H' d v->QD d o'->Q v H'
theorem zh7(C:yg X.prog X.w X.K X.mg X.base k x ps (zle X.K sp))(hr:Room k' X.A)(hg:Gl X x)(ha:DPG X i (e::es) t)(hk:k<=k':=by decide)(hdb:(x ==("__debug__" : Str))=false:=by decide)
  (he:starEach (e::es) X.env=(false,eval e X.env)::starEach es X.env:=by rfl) (hpl:(backTo pos (starEach es X.env)).any (·.1)=false:=by rfl):PE X (.Call (.Name x p) (e::es) [] pos) (zcj X.K i sp t):=by
 intro pins s σ H Q I zr44;obtain⟨H₀,σD,o,QD,ok,eo,q,kq⟩:=zr44;refine zbl C hr hg ha.pa hk hdb he hpl pins s σ H Q I ⟨H₀,σD,_,ok,q,λvp v vq H1 wp wq s1 e1 r1 r2 q1=>?_⟩;obtain⟨v',f,e2,rO,nf,fr,put⟩:=(ok.after s1).focus eo;rw[e1]at e2
 cases e2;obtain⟨a,rfl⟩:=rO.ref;obtain⟨p1,p2,q2⟩:=q1;refine⟨vp,a,vq,wp,o.bare,wq,QD,zby f H1,f,by rw[List.append_nil],r1.mono (zf0 rO) (List.all_eq_true.mp p1),r2.mono (zf0 rO) (List.all_eq_true.mp p2),rO.bare,nf,λb hb=>zau hb,zch,q2,λv2 H2 d o' f' s2 rp ro nf' hf' qd=>?_⟩;obtain⟨ok2,pr⟩:=put H2 (o.with o') f' (λb u hb hu=>s2 b u (by rw[qk hb];exact hu)) nf' (λb hb=>by
  by_cases z:b∈f
  ·exact .inl z
  ·have:=hf' b hb;rw[qk z]at this;exact .inr this) (rO.with ro)
 exact kq v2 H2 d o' ok2 (s1.pers.trans pr) rp qd
end
section
variable {P:Program}{w:World}{K:PySem.W.Frag}{mg:Str->Option Value}{base:Heap}
theorem DOk.beginG{H₀ H:Hp}{wp wq:List W}{vp vq:List V}{o:O}{a:Addr}{f:List Addr}(r1:RepWs K H₀ wp vp)(r2:RepWs K H₀ wq vq)(rO:RepO K H o (.ref a) f)(nf:f.Nodup)(fr:∀b∈f,H₀ b=none)(s:Same H₀ H)(N:List Str):
  DOk K H₀ H (jo N (wp ++ .own (.anc a o)::wq)) (start N (vp ++ .ref a::vq)):=by
 have rep:∀n:Nat,Slots K H₀ H (List.replicate n none) (List.replicate n none) []:=λn=>by
  induction n with
  |zero=>exact .nil
  |succ n ih=>exact .none ih
 have put:∀{ws:List W}{vs:List V},RepWs K H₀ ws vs->∀{τ:DSt}{ρ:St}{g:List Addr},Slots K H₀ H τ ρ g->Slots K H₀ H (ws.map some++τ) (vs.map some++ρ) g:=by
  intro ws vs r τ ρ g t
  induction r with
  |nil=>exact t
  |@cons w' v ws vs r _ ih=>
   cases w' with
   |val d=>exact .val (Rep.same s r) ih
   |vw xs=>exact .vw r ih
   |vd xs=>exact .vd r ih
   |exc xs=>exact .exc r ih
   |scr ns=>obtain⟨a,rfl,r⟩:=r;exact .scr r ih
   |pen=>obtain⟨a,rfl,r⟩:=r;exact .pen (s _ _ r) ih
   |tmp d=>exact r.elim
   |own o=>exact r.elim
 have e1:=r1.length;have e2:=r2.length;refine⟨s,f,?_,nf,fr⟩;unfold jo start;have z:=put r1 (Slots.own (o:=.anc a o) (v:=.ref a) ⟨rfl,rO⟩ (put r2 (rep (N.length-(wp++W.own (.anc a o)::wq).length))));rw[List.append_nil]at z;have el:(vp++V.ref a::vq).length=(wp++W.own (.anc a o)::wq).length:=by simp[e1,e2]
 rw[el];simpa using z
theorem Fun.dokG{x qual:Str}{st:Stmt}{f:Addr}{fd:FuncData}{N ps:List Str}{k:Nat}{sp:zci}(F:Fun K x qual st f fd)(S:yb N ps (zd st))(len:∀wp o wq Q,sp wp o wq Q->wp.length+1+wq.length=ps.length)
  (hbody:∀(cdv:Value) (A:Around) (outer:List Env) (s:Shared) (H:Hp) (a:Addr) (wp:List W) (o:O) (wq:List W) (Q:D->O->Prop) (E:XK),Room k (A.deeper (envOfC qual (zd st) s.heap.objs.size f cdv))->sp wp o wq Q ->
   ∃t,DGSs (zgc CX0 P w K mg base N qual (zd st) f cdv A outer s H E).nox (zj st) t/\t { nx:=λσ=>∃o',σ[wp.length]?=some (some (.own (.anc a o')))/\Q .none o',rt:=λd σ=>∃o',σ[wp.length]?=some (some (.own (.anc a o')))/\Q d o' } (jo N (wp ++ .own (.anc a o)::wq))):FnOk P w K mg base CX0 (k+1) f fd ps (zle K sp):=by
 refine F.ok S (λvs H Q E h=>?_) λcdv A outer s H vs Q E hr h=>?_
 ·obtain⟨vp,a,vq,ws,o,wq,QD,H₀,f,rfl,r1,r2,_,_,_,_,q,_⟩:=h;rw[<-len _ _ _ _ q,r1.length,r2.length];simp only[List.length_append,List.length_cons];omega
 ·obtain⟨vp,a,vq,wp,o,wq,QD,H₀,f,rfl,r1,r2,rO,nf,fr,sm,q,kk⟩:=h;obtain⟨t,ht,hq⟩:=hbody cdv A outer s H a wp o wq QD E hr q
  have ends:∀{v H' σ' σD' d},DOk K H₀ H' σD' σ'->Rep K H' d v->(∃o',σD'[wp.length]?=some (some (.own (.anc a o')))/\QD d o')->Q v H':=by
   intro v H' σ' σD' d ok rp ⟨o',e,qd⟩;obtain⟨v',f',e1,ro,nf',fr',_⟩:=ok.focus e;obtain⟨rfl,ro⟩:=ro;exact kk v H' d o' f' ok.same rp ro nf' fr' qd
  exact⟨_,ht.ps,H₀,_,_,DOk.beginG r1 r2 rO nf fr sm N,hq,λσ' H' σD' ok' p' q'=>ends ok' .non q',λv H' σ' σD' d ok' rp qr=>ends ok' rp qr,λ_ _ _ _ _ z=>z.elim,λ_ _ _ _ _ z=>z.elim⟩
end
section
variable {X:Cx}{e:Expr}{pos:Pos}{i j:Nat}{sp:zci}{t:zay}{a b:List Stmt}{ta tb:DTS}
def zea(i:Nat)(sp:zci)(t:zay)(N:D->DSt->Prop):DSt->Prop:=λσ=>match σ[i]? with
 |some (some (.own o))=>t σ λwp wq=>wp.all W.plain=true/\wq.all W.plain=true/\sp wp o.bare wq λd o'=>N d (clr (σ.set i (some (.own (o.with o')))))
 |_=>False
theorem zj1{K:PySem.W.Frag}{H H₀:Hp}{σD:DSt}{σ:St}{N:D->DSt->Prop}{Q:VK}(ok:DOk K H₀ H σD σ)(q:zea i sp t N σD)(kq:∀v H' d σD',DOk K H₀ H' σD' σ->Pers H H'->Rep K H' d v->N d σD'->Q v H'):zcj K i sp t σ H Q:=by
 unfold zea at q
 split at q
 ·next o eo=>exact⟨H₀,σD,o,_,ok,eo,q,λv H' d o' ok' pr rp qd=>kq v H' d _ ok' pr rp qd⟩
 ·exact q.elim
end
def MxAt(K:PySem.W.Frag)(H:Hp)(bs:List Addr)(u:V):Mx->Prop
 |.v d=>Rep K H d u
 |.l xs=>∃b vs,u=.ref b/\b∈bs/\H b=some (.lst vs)/\Reps K H xs vs
section
variable {K:PySem.W.Frag}{H H':Hp}
theorem MxAt.more{bs cs:List Addr}{u:V}{m:Mx}(h:MxAt K H bs u m)(k:∀b∈bs,b∈cs):MxAt K H cs u m:=by
 cases m with
 |v d=>exact h
 |l xs=>obtain⟨b,vs,e1,e2,e3⟩:=h;exact⟨b,vs,e1,k b e2,e3⟩
theorem MxR.at:∀{ms:List Mx}{us:List V}{bs:List Addr}{k:Nat}{m:Mx},MxR K H ms us bs->ms[k]?=some m->∃u,us[k]?=some u/\MxAt K H bs u m
 |[],_,_,k,m,_,e=>by simp at e
 |.v d::ms,u::us,bs,0,m,h,e=>by cases e;exact⟨u,rfl,h.1⟩
 |.v d::ms,u::us,bs,k+1,m,h,e=>by
  obtain⟨w,e1,r⟩:=MxR.at (k:=k) h.2 (by simpa using e);exact⟨w,by simpa using e1,r⟩
 |.l xs::ms,u::us,b::bs,0,m,h,e=>by
  cases e;obtain⟨e0,⟨vs,e1,r⟩,_⟩:=h;exact⟨u,rfl,b,vs,e0,List.mem_cons_self,e1,r⟩
 |.l xs::ms,u::us,b::bs,k+1,m,h,e=>by
  obtain⟨w,e1,r⟩:=MxR.at (k:=k) h.2.2 (by simpa using e);exact⟨w,by simpa using e1,r.more λc hc=>List.mem_cons_of_mem _ hc⟩
theorem MxR.setV{d:D}{w:V}(r:Rep K H d w):∀{ms:List Mx}{us:List V}{bs:List Addr}{k:Nat}{d0:D},MxR K H ms us bs->ms[k]?=some (.v d0)->MxR K H (ms.set k (.v d)) (us.set k w) bs
 |[],_,_,k,d0,_,e=>by simp at e
 |.v _::ms,u::us,bs,0,d0,h,e=>⟨r,h.2⟩
 |.v _::ms,u::us,bs,k+1,d0,h,e=>⟨h.1,MxR.setV r h.2 (by simpa using e)⟩
 |.l xs::ms,u::us,b::bs,0,d0,h,e=>by cases e
 |.l xs::ms,u::us,b::bs,k+1,d0,h,e=>⟨h.1,h.2.1,MxR.setV r h.2.2 (by simpa using e)⟩
theorem MxR.setL{b:Addr}{ws:List V}{ys:List D}(p:Pers H (upd H b (.lst ws)))(r:Reps K (upd H b (.lst ws)) ys ws):∀{ms:List Mx}{us:List V}{bs:List Addr}{k:Nat}{xs:List D},MxR K H ms us bs->bs.Nodup->ms[k]?=some (.l xs)->us[k]?=some (.ref b)->MxR K (upd H b (.lst ws)) (ms.set k (.l ys)) us bs
 |[],_,_,k,xs,_,_,e,_=>by simp at e
 |.v _::ms,u::us,bs,0,xs,h,nd,e,_=>by cases e
 |.v _::ms,u::us,bs,k+1,xs,h,nd,e,e2=>⟨h.1.mono p,MxR.setL p r h.2 nd (by simpa using e) (by simpa using e2)⟩
 |.l zs::ms,u::us,c::bs,0,xs,h,nd,e,e2=>by
  obtain⟨e0,_,t⟩:=h;have e3:u=.ref b:=by simpa using e2
  have:c=b:=V.ref.inj (e0.symm.trans e3);subst this;exact⟨e0,⟨ws,z9,r⟩,t.keep p λa ha w' hw=>by rw[ya (λz=>(List.nodup_cons.mp nd).1 (by rw[<-z];exact ha))];exact hw⟩
 |.l zs::ms,u::us,c::bs,k+1,xs,h,nd,e,e2=>by
  obtain⟨e0,⟨vs,e1,r1⟩,t⟩:=h;obtain⟨w',e3,b',vs',e4,e5,_⟩:=MxR.at (k:=k) t (by simpa using e);have e6:us[k]?=some (.ref b):=by simpa using e2
  rw[e6]at e3
  cases e3
  cases e4;refine⟨e0,⟨vs,?_,r1.mono p⟩,MxR.setL p r t (List.nodup_cons.mp nd).2 (by simpa using e) e6⟩;rw[ya (λz=>(List.nodup_cons.mp nd).1 (by rw[z];exact e5))];exact e1
theorem DOk.mixAt{H₀:Hp}{σD:DSt}{σ:St}(h:DOk K H₀ H σD σ){i:Nat}{o:O}{ms:List Mx}(e:σD[i]?=some (some (.own o)))(eb:o.bare=.mix ms):
  ∃a us bs,σ[i]?=some (some (.ref a))/\H a=some (.lst us)/\MxR K H ms us bs/\(a::bs).Nodup /\
   ∀H' ms' us' bs',(∀c u,c∉a::bs->H c=some u->H' c=some u)->(a::bs').Nodup->(∀c∈bs',c∈a::bs\/H c=none)->H' a=some (.lst us')->MxR K H' ms' us' bs' ->
    DOk K H₀ H' (clr (σD.set i (some (.own (o.with (.mix ms')))))) σ/\Pers H H':=by
 obtain⟨v,f,e1,rO,nf,_,put⟩:=h.focus e;have r:=rO.bare;rw[eb]at r;obtain⟨a,us,bs,rfl,rfl,ea,m⟩:=r;exact⟨a,us,bs,e1,ea,m,nf,λH' ms' us' bs' k nd fr ea' m'=>put H' _ (a::bs') k nd (λc hc=>by
  rcases List.mem_cons.mp hc with rfl|hc
  ·exact .inl List.mem_cons_self
  ·exact fr c hc) (rO.with (o':=.mix ms') ⟨a,us',bs',rfl,rfl,ea',m'⟩)⟩
end
theorem zdm{α:Type}{xs:List α}{n:Int}{k:Nat}{v:α}(h:ixN xs.length n=some k)(e:xs[k]?=some v):atI xs n=some v:=by
 unfold atI;rw[h];exact e
def zrb(i:Nat)(ti:DTE):DTE:=λσ Q=>match σ[i]? with
 |some (some (.own o))=>match o.bare with
  |.mix ms=>ti σ λn=>match n with
   |.int n=>∃k m,ixN ms.length n=some k/\ms[k]?=some m/\match m with
    |.v d=>Q d
    |.l xs=>Q (.list xs)
   |_=>False
  |_=>False
 |_=>False
section
variable {X:Cx}{e ie:Expr}{te ti:DTE}{tf:DTF}{pos:Pos}
theorem jc(i:Nat){x:Str}{p1:Pos}(hi:DE X ie ti)(hix:zam ie)(hN:X.N[i]?=some x:=by rfl)(hv:Vis X.env.scope x:=by first|exact Or.inl rfl|exact Or.inr (Or.inl rfl)|exact Or.inr (Or.inr rfl))(hd:(x ==("__debug__" : Str))=false:=by decide)
  (hcd:(x ==("__classdict__" : Str))=false:=by decide):DV X (.Subscript (.Name x p1) ie pos) (zrb i ti) :=
 DV.of (j6 ix_list (wm (i:=i) hN hv hd hcd) hi.pe hix) λσ H H₀ σD QD ok q=>by
  unfold zrb at q
  split at q
  ·next o eo=>
   split at q
   ·next ms eb=>
    obtain⟨a,us,bs,e1,ea,m,_⟩:=ok.mixAt eo eb;refine⟨.ref a,e1,H₀,σD,_,ok,q,λv H1 d s1 r1 q1=>?_⟩
    cases d with
    |int n=>
     cases r1;obtain⟨k,mm,h1,h2,q2⟩:=q1;obtain⟨u,hu,r⟩:=m.at h2;rw[m.len]at h1
     cases mm with
     |v d=>exact⟨a,us,n,u,rfl,rfl,SqL.of (s1 _ _ ea),zdm h1 hu,d,s1,.inl (Rep.same s1 r),q2⟩
     |l xs=>
      obtain⟨b,vs,rfl,_,eb2,r2⟩:=r;exact⟨a,us,n,_,rfl,rfl,SqL.of (s1 _ _ ea),zdm h1 hu,.list xs,s1,.inr ⟨xs,rfl,b,vs,rfl,.inl (s1 _ _ eb2),r2.same s1⟩,q2⟩
    |_=>exact q1.elim
   ·exact q.elim
  ·exact q.elim
def zrc(i:Nat)(ti:DTE):DTE:=λσ Q=>match σ[i]? with
 |some (some (.own o))=>match o.bare with
  |.mix ms=>ti σ λn=>match n with
   |.int n=>∃k d,ixN ms.length n=some k/\ms[k]?=some (.v d)/\Q d
   |_=>False
  |_=>False
 |_=>False
theorem zgy(i:Nat){x:Str}{p1:Pos}(hi:DE X ie ti)(hix:zam ie)(hN:X.N[i]?=some x:=by rfl)(hv:Vis X.env.scope x:=by first|exact Or.inl rfl|exact Or.inr (Or.inl rfl)|exact Or.inr (Or.inr rfl))(hd:(x ==("__debug__" : Str))=false:=by decide)
  (hcd:(x ==("__classdict__" : Str))=false:=by decide):DE X (.Subscript (.Name x p1) ie pos) (zrc i ti) :=
 DE.of (j6 ix_list (wm (i:=i) hN hv hd hcd) hi.pe hix) λσ H H₀ σD QD ok q=>by
  unfold zrc at q
  split at q
  ·next o eo=>
   split at q
   ·next ms eb=>
    obtain⟨a,us,bs,e1,ea,m,_⟩:=ok.mixAt eo eb;refine⟨.ref a,e1,H₀,σD,_,ok,q,λv H1 d s1 r1 q1=>?_⟩
    cases d with
    |int n=>
     cases r1;obtain⟨k,d,h1,h2,q2⟩:=q1;obtain⟨u,hu,r⟩:=m.at h2;rw[m.len]at h1;exact⟨a,us,n,u,rfl,rfl,SqL.of (s1 _ _ ea),zdm h1 hu,d,s1,Rep.same s1 r,q2⟩
    |_=>exact q1.elim
   ·exact q.elim
  ·exact q.elim
def zli(i:Nat)(ti te:DTE):DTS:=λDn σ=>match σ[i]? with
 |some (some (.own o))=>match o.bare with
  |.mix ms=>ti σ λn=>match n with
   |.int n=>∃k xs,ixN ms.length n=some k/\ms[k]?=some (.l xs)/\te σ λd=>xs.length<sizeLine/\Dn.nx (clr (σ.set i (some (.own (o.with (.mix (ms.set k (.l (xs ++ [d])))))))))
   |_=>False
  |_=>False
 |_=>False
theorem zrd(i:Nat){x:Str}{p1 p3 apos cpos:Pos}(hi:DE X ie ti)(he:DE X e te)(hix:zam ie)(hN:X.N[i]?=some x:=by rfl)(hv:Vis X.env.scope x:=by first|exact Or.inl rfl|exact Or.inr (Or.inl rfl)|exact Or.inr (Or.inr rfl))(hd:(x ==("__debug__" : Str))=false:=by decide)
  (hcd:(x ==("__classdict__" : Str))=false:=by decide)
  (hbase:attributeBase (.Subscript (.Name x p1) ie p3) "append" X.env (eval (.Subscript (.Name x p1) ie p3) X.env)=eval (.Subscript (.Name x p1) ie p3) X.env:=by rfl)
  (hfew:((backTo cpos (starEach (e :: []) X.env)).all (λx=>!x.1) && (backToKw cpos (keywordEach [] X.env)).all (λx=>x.1.isSome)
   && decide ((e :: []).length+([]:List Keyword).length+(if ([]:List Keyword).isEmpty then 0 else 1)<30))=true:=by rfl)
  (hline:(apos.endLine == cpos.line)=true:=by rfl) (hst:starEach (e :: []) X.env=(false,eval e X.env)::starEach [] X.env:=by rfl) (hplain:(backTo cpos (starEach [] X.env)).any (·.1)=false:=by rfl)
  (hs:swapsWith (.Call (.Attribute (.Subscript (.Name x p1) ie p3) "append" apos) [e] [] cpos) none pos.line X.env=pure false:=by rfl):DS X (.Expr (.Call (.Attribute (.Subscript (.Name x p1) ie p3) "append" apos) [e] [] cpos) pos) (zli i ti te) :=
 DS.of (zf9 (zkq PySem.F.plainAttrs_list PySem.F.slot_list_append PySem.F.type_list_append je (j6 ix_list (wm (i:=i) hN hv hd hcd) hi.pe hix) (xv he.pe vz hst) hbase hfew hline hst hplain) hs) λσ H H₀ σD Dn ok q=>by
  unfold zli at q
  split at q
  ·next o eo=>
   split at q
   ·next ms eb=>
    obtain⟨a,us,bs,e1,ea,m,_⟩:=ok.mixAt eo eb;refine⟨.ref a,e1,H₀,σD,_,ok,q,λv0 H0 d0 s0 r0 q0=>?_⟩
    cases d0 with
    |int n=>
     cases r0;obtain⟨k,xs,h1,h2,q⟩:=q0;obtain⟨u,hu,b,vs,rfl,hb,ebb,r⟩:=m.at h2;rw[m.len]at h1;refine⟨a,us,n,_,rfl,rfl,SqL.of (s0 _ _ ea),zdm h1 hu,.inl ⟨rfl,vs,SqL.of (s0 _ _ ebb)⟩,H₀,σD,_,ok.after s0,q,λv H1 d s1 r1 q1=>?_⟩;obtain⟨a',us',bs',e1',ea',m',nd,put⟩:=((ok.after s0).after s1).mixAt eo eb;rw[e1]at e1'
     cases e1';have ea1:=s1 _ _ (s0 _ _ ea);rw[ea1]at ea'
     cases ea';have ebs:=s1 _ _ (s0 _ _ ebb);obtain⟨u',hu',b',vs',e3,hb',ebb',r'⟩:=m'.at h2;rw[hu]at hu'
     cases hu'
     cases e3;rw[ebs]at ebb'
     cases ebb';have ps:Pers H1 (upd H1 b (.lst (vs ++ [v]))):=w5 ebs rfl;have nab:a≠b:=λz=>(List.nodup_cons.mp nd).1 (by rw[z];exact hb');obtain⟨ok2,pr⟩:=put (upd H1 b (.lst (vs ++ [v]))) (ms.set k (.l (xs ++ [d]))) us bs' (λc w' hc hw=>by rw[ya (λz=>hc (by rw[z];exact List.mem_cons_of_mem _ hb'))];exact hw) nd (λc hc=>.inl (List.mem_cons_of_mem _ hc)) (by rw[ya nab];exact ea1)
      (m'.setL ps ((r'.append (.cons r1 .nil)).mono ps) (List.nodup_cons.mp nd).2 h2 hu)
     exact⟨b,vs,v,rfl,rfl,ebs,by rw[<-r'.length];exact q1.1,_,ok2,(s0.trans s1).pers.trans pr,q1.2⟩
    |_=>exact q0.elim
   ·exact q.elim
  ·exact q.elim
def zpe(i:Nat)(ti te:DTE):DTS:=λDn σ=>te σ λd=>match σ[i]? with
 |some (some (.own o))=>match o.bare with
  |.mix ms=>ti σ λn=>match n with
   |.int n=>∃k d0,ixN ms.length n=some k/\ms[k]?=some (.v d0)/\Dn.nx (clr (σ.set i (some (.own (o.with (.mix (ms.set k (.v d))))))))
   |_=>False
  |_=>False
 |_=>False
theorem zdn(i:Nat){x:Str}{p1 tpos:Pos}(he:DE X e te)(hi:DE X ie ti)(hN:X.N[i]?=some x:=by rfl)(hv:Vis X.env.scope x:=by first|exact Or.inl rfl|exact Or.inr (Or.inl rfl)|exact Or.inr (Or.inr rfl))(hd:(x ==("__debug__" : Str))=false:=by decide)
  (hcd:(x ==("__classdict__" : Str))=false:=by decide)
  (ha:∀v,assign (.Subscript (.Name x p1) ie tpos) X.env v=(do
   let ov <-holding [v] (eval (.Name x p1) X.env)
   let iv <-holding [v,ov] (eval ie X.env)
   standAt tpos
   holding [v,ov,iv] (setItem ov iv v)
   release [v,ov,iv] []):=by intro _;rfl)
  (hs:swapsWithSole [.Subscript (.Name x p1) ie tpos] e pos.line X.env=pure false:=by rfl) (hw:swappedStores [.Subscript (.Name x p1) ie tpos] e X.env=pure none:=by rfl)
  (h1:(assignEach [.Subscript (.Name x p1) ie tpos] X.env).map (·.2) = [assign (.Subscript (.Name x p1) ie tpos) X.env]:=by rfl):DS X (.Assign [.Subscript (.Name x p1) ie tpos] e pos) (zpe i ti te) :=
 DS.of (zds he.pe (zga (wm (i:=i) hN hv hd hcd) hi.pe zbk ha) hs hw h1) λσ H H₀ σD Dn ok q=>⟨H₀,σD,_,ok,q,λv H1 d s1 r1 q1=>by
  split at q1
  ·next o eo=>
   split at q1
   ·next ms eb=>
    obtain⟨a,us,bs,e1,ea,m,_⟩:=(ok.after s1).mixAt eo eb;refine⟨.ref a,e1,H₀,σD,_,ok.after s1,q1,λw' H2 n' s2 r2 q2=>?_⟩
    cases n' with
    |int n=>
     cases r2;obtain⟨k,d0,h1,h2,q2⟩:=q2;obtain⟨a',us',bs',e1',ea',m',nd,put⟩:=((ok.after s1).after s2).mixAt eo eb;rw[e1]at e1'
     cases e1';have ea1:=s2 _ _ ea;rw[ea1]at ea'
     cases ea';have ps:Pers H2 (upd H2 a (.lst (us.set k v))):=w5 ea1 rfl;obtain⟨ok2,pr⟩:=put (upd H2 a (.lst (us.set k v))) (ms.set k (.v d)) (us.set k v) bs' (λc u hc hu=>by rw[ya (λz=>hc (by rw[z];exact List.mem_cons_self))];exact hu) nd (λc hc=>.inl (List.mem_cons_of_mem _ hc)) z9
      ((m'.setV (r1.same s2) h2).keep ps λc hc u hu=>by rw[ya (λz=>(List.nodup_cons.mp nd).1 (by rw[<-z];exact hc))];exact hu)
     exact⟨a,us,n,k,rfl,rfl,ea1,by rw[<-m'.len];exact h1,_,ok2,(s1.pers.trans s2.pers).trans pr,q2⟩
    |_=>exact q2.elim
   ·exact q1.elim
  ·exact q1.elim⟩
end
end L2
namespace SV
open PySem
def Not(xs:Array Nat)(j:Nat):Prop:=xs[SetTable.below xs j]?≠some j
end SV
namespace SV
open PySem
def sl(t:SetTable)(i:Nat):Nat:=if i=0 then 0 else t.place.getD (i-1) 0+1
end SV
namespace L2
open PySem PySem.Spec PyProof.Rows
theorem zj2{pos:Pos}{a b:Int}{c cv:Value}(l:List Value)(h:TriplesOk l)(e:codeAmong pos (l ++ [rawInt a,rawInt b,c])=some cv):codeAmong pos l=some cv\/cv=c:=by
 fun_induction TriplesOk l with
 |case1=>
  simp only[List.nil_append,codeAmong,rawInt]at e
  split at e
  ·exact .inr (Option.some.inj e).symm
  ·cases e
 |case2 a' t b' u x rest ih=>
  simp only[List.cons_append,codeAmong]at e ⊢
  split at e
  ·rename_i z;rw[if_pos z];exact .inl e
  ·rename_i z;rw[if_neg z];exact ih h e
 |case3 l h1 h2=>exact h.elim
theorem zlj{x y:Value}{more:Array Value}(h : #[x]++more = #[y]):x=y:=by
 have:=congrArg Array.toList h;simp at this;exact this.1
def zaa(mg:Str->Option Value)(base:Heap):Prop:=∃bm o,mg "__builtins__" = some (.ref bm)/\bm≠builtinsNs/\base.get? bm=some o/\o.cls=.type "module" /\ o.dict=some builtinsNs/\o.data=.plain
def za0(q:Str)(P:Addr)(H:Hp):Prop:=∃t more,H P=some (.tbl (#[.str q t]++more))
section
variable {X:Cx}{pins:List (Addr×Obj)}{σ:St}{H:Hp}{s:Shared}{P c:Addr}{q:Str}
theorem Inv.tabAt(I:Inv X pins σ H s)(h:za0 q P X.H₀):za0 q P H:=by
 obtain⟨t,m,e⟩:=h;obtain⟨m2,e2⟩:=I.base.tbls _ _ e;exact⟨t,m++m2,by rw[e2,Array.append_assoc]⟩
theorem Inv.tabOk(I:Inv X pins σ H s)(h:za0 q P H):∃ps:Array Value,s.heap.get? P=some { cls:=.none,data:=.fields ps }/\TriplesOk ps.toList /\
  ∀pos cv,codeAmong pos ps.toList=some cv->∃c' oc u,cv=.ref c'/\H c'=some (.frz oc u)/\zkh oc q:=by
 obtain⟨t,m,e⟩:=h;obtain⟨ps,q',t',lab,r1,r2,r3⟩:=(show zha H s.heap P _ from I.hok P _ e)
 have:=zlj lab
 cases this;exact⟨ps,r1,r2,r3⟩
theorem Inv.bltAt(I:Inv X pins σ H s)(hB:zaa X.mg X.base)(hP:H P≠none):s.heap.BuiltinsAt X.mg P:=by
 obtain⟨bm,o,h1,h2,h3,h4,h5,h6⟩:=hB;refine⟨bm,o,h1,h2,λz=>?_,λz=>?_,(I.bs _ _ h3).1,h4,h5,h6⟩
 ·obtain⟨o',es,ep,e,d,_⟩:=I.mod.glob;rw[<-z,h3]at e
  cases e;rw[h6]at d
  cases d
 ·exact hP (z ▸ (I.bs _ _ h3).2)
theorem Inv.globNe(I:Inv X pins σ H s)(hP:H P≠none):mainGlobals≠P:=λz=>by
 obtain⟨o',es,ep,e,d,_⟩:=I.mod.glob;exact hP (z ▸ (I.bs _ _ e).2)
end
def zj3(X:Cx)(pins:List (Addr×Obj))(σ:St)(f:Addr)(x:V)(H:Hp)(n:Int):Prop :=
 ∀(ps:List (Addr×Obj)) (s:Shared) (H1:Hp) (u:Value),Inv X (pins++ps) σ H1 s->Same H H1->RelV x u ->
  wpAny (model X.prog X.w) X.A.in1 (call (.ref f) [u]) (λkv s'=>∃H2 t,kv=.int n t/\Inv X (pins++ps) σ H2 s'/\Same H1 H2) (λ_ _=>False) s
section
variable {X:Cx}{pins:List (Addr×Obj)}{σ:St}{H:Hp}{a it S f:Addr}{xs:List V}{kf:Nat->Int}{kwd:List (Str×Value)}{R:Value->Shared->Prop}
theorem FpOk.at{b:Addr}{H1 H2:Hp}(h:FpOk X pins H1 b)(n:H2 b=none):FpOk X pins H2 b:=⟨n,h.2⟩
theorem FpOk.inv{b:Addr}{H1:Hp}{s:Shared}{h':Heap}{t':Nat}(h:FpOk X pins H1 b)(I:Inv X pins σ H1 s)(k:∀c o,c≠b->s.heap.get? c=some o->h'.get? c=some o):Inv X pins σ H1 { s with heap:=h',toks:=t' } :=
 I.turned k h.1 h.2.1 h.2.2.2.1 h.2.2.2.2.1 h.2.2.2.2.2
theorem zwh{H1:Hp}{s:Shared}{oi os:Obj}(I:Inv X pins σ H1 s)(h1:FpOk X pins H1 it)(h2:FpOk X pins H1 S)(g1:s.heap.get? it=some oi)(g2:s.heap.get? S=some os)(n1:∀v,oi.data ≠ .cell v)(n2:∀v,os.data ≠ .cell v):
  Inv X (pins ++ [(it,oi),(S,os)]) σ H1 s:=I.pins_of λp hp=>by
 rcases List.mem_append.mp hp with hp|hp
 ·exact I.pin p (List.mem_append_right _ hp)
 ·rcases List.mem_cons.mp hp with rfl|hp
  ·exact⟨g1,h1.1,h1.2.1,h1.2.2.1,n1⟩
  ·rw[List.mem_singleton.mp hp];exact⟨g2,h2.1,h2.2.1,h2.2.2.1,n2⟩
end
def qz(q:Str)(T:Addr)(sp:Sp):Sp:=λvs H Q E=>za0 q T H/\sp vs H Q E
section
variable {X:Cx}{e:Expr}{es:List Expr}{k k':Nat}{x q:Str}{T:Addr}{ps:List Str}{sp:DSp}{t:DTP}{p pos:Pos}
theorem zpf{sp:Sp}{t:TA}(C:yg X.prog X.w X.K X.mg X.base k x ps (qz q T sp))(hT:za0 q T X.H₀)(hr:Room k' X.A)(hg:Gl X x)(ha:PA X (e::es) t)(hk:k<=k')
  (hdb:(x ==("__debug__" : Str))=false) (he:starEach (e::es) X.env=(false,eval e X.env)::starEach es X.env) (hpl:(backTo pos (starEach es X.env)).any (·.1)=false):PE X (.Call (.Name x p) (e::es) [] pos) (znp sp [] E0 t):=λpins s σ H Q I h=>by
 obtain⟨f,fd,F,b,kp,m⟩:=C;refine wpAny_Call_Name_kw (zf8 I hg m ?_ hdb);refine PySem.W.callWith_K (h₀:=X.base) I.ok.mod.kin kp (thn (ha pos pins s σ H _ I h) λus s1 ⟨vs,H1,I1,r,z⟩=>⟨I1.kIn,?_⟩) he hpl;exact znq F (hr.mono hk) b .nil zr0 I1 r ⟨I1.tabAt hT,z⟩
theorem zmx{pins:List (Addr×Obj)}{σ:St}{H H₀:Hp}{σD:DSt}{s:Shared}{Q:Ret->Prop}(C:yg X.prog X.w X.K X.mg X.base k x ps (qz q T (yh X.K sp)))(hT:za0 q T X.H₀)(hr:Room k' X.A)(hg:Gl X x)(ha:DPs X (e::es) t)(hk:k<=k')
  (hdb:(x ==("__debug__" : Str))=false) (he:starEach (e::es) X.env=(false,eval e X.env)::starEach es X.env) (hpl:(backTo pos (starEach es X.env)).any (·.1)=false) (I:Inv X pins σ H s) (ok:DOk X.K H₀ H σD σ) (z:t σD λws=>sp ws Q) :
  wpAny (model X.prog X.w) X.A (eval (.Call (.Name x p) (e::es) [] pos) X.env) (λu s'=>∃v H' r,Inv X pins σ H' s'/\RelV v u/\Same H H'/\zhs X.K H H' r v/\Q r) X.xe s:=by
 refine thn (zpf C hT hr hg ha.pa hk hdb he hpl pins s σ H (λv H'=>∃r,Same H H'/\zhs X.K H H' r v/\Q r) I ?_) λu s' zq29=>by obtain⟨v,H',I',r,z,sm,rp,qd⟩:=zq29;exact⟨v,H',z,I',r,sm,rp,qd⟩
 refine⟨H₀,σD,_,ok,z,λvs H1 ws s1 r1 q1=>⟨ws,Q,by rw[List.append_nil];exact r1,q1,λv H' r s2 rp qd=>⟨r,s1.trans s2,?_,qd⟩⟩⟩
 cases r with
 |val d=>exact rp
 |new xs=>obtain⟨a,vs,e1,n,e2,r⟩:=rp;exact⟨a,vs,e1,s1.free n,e2,r⟩
theorem zeb(C:yg X.prog X.w X.K X.mg X.base k x ps (qz q T (yh X.K sp)))(hT:za0 q T X.H₀)(hr:Room k' X.A)(hg:Gl X x)(ha:DPs X (e::es) t)(hk:k<=k':=by decide)(hdb:(x ==("__debug__" : Str))=false:=by decide)
  (he:starEach (e::es) X.env=(false,eval e X.env)::starEach es X.env:=by rfl) (hpl:(backTo pos (starEach es X.env)).any (·.1)=false:=by rfl):DE X (.Call (.Name x p) (e::es) [] pos) (zkx sp t) :=
 ⟨λpins s σ H H₀ σD Q I ok z=>thn (zmx C hT hr hg ha hk hdb he hpl I ok z) λu s' zq87=>by
  obtain⟨v,H',r,I',rv,sm,rp,qd⟩:=zq87
  cases r with
  |val d=>exact⟨v,H',d,I',rv,sm,rp,qd⟩
  |new xs=>
   obtain⟨a,vs,rfl,n,e,r⟩:=rp;obtain⟨H'',J,sm',r'⟩:=zb7 I' sm n e r;exact⟨.ref a,H'',.list xs,J,rv,sm',r',qd⟩⟩
end
section
variable {P:Program}{w:World}{K:PySem.W.Frag}{mg:Str->Option Value}{base:Heap}
theorem Fun.dokT{x qual q:Str}{T:Addr}{st:Stmt}{f:Addr}{fd:FuncData}{N ps:List Str}{k:Nat}{sp:DSp}(F:Fun K x qual st f fd)(S:yb N ps (zd st))(len:∀ws Q,sp ws Q->ws.length=ps.length)
  (hbody:∀(A:Around) (outer:List Env) (s:Shared) (H:Hp) (ws:List W) (Q:Ret->Prop) (E:XK),Room k (A.deeper (envOfC qual (zd st) s.heap.objs.size f fd.code))->za0 q T H->sp ws Q ->
   ∃t,DSs (zgc CX0 P w K mg base N qual (zd st) f fd.code A outer s H E).nox (zj st) t/\t { nx:=λ_=>Q (.val .none),rt:=Q } (jo N ws)):FnOk P w K mg base CX0 (k+1) f fd ps (qz q T (yh K sp)):=by
 obtain⟨oc,od,kV,doc,pm,an,cdv,ct,osl,rfl,lk,hcd⟩:=F.ex;refine zrz lk hcd S (λvs H Q E h=>?_) λA outer s H vs Q E hr h=>?_
 ·obtain⟨_,ws,QD,r,z,_⟩:=h;rw[<-r.length];exact len ws QD z
 ·obtain⟨hT,ws,QD,r,z,kk⟩:=h;obtain⟨t,ht,hq⟩:=hbody A outer s H ws QD E hr hT z;exact⟨_,ht.ps.nox,H,_,_,DOk.begin r N,hq,λσ' H' σD' ok' p' q'=>kk .non H' (.val .none) ok'.same .non q',λv H' r' sm rp qr=>kk v H' r' sm rp qr,λ_ _ _ _ _ z=>z.elim,λ_ _ _ _ _ z=>z.elim⟩
end
def vh(T:Addr)(K:PySem.W.Frag):PySem.W.Frag:=K.filter λp=>p.1 != T
theorem jl{T a:Addr}(h:a≠T):∀K:PySem.W.Frag,(vh T K).lookup a=K.lookup a
 |[]=>rfl
 |(b,o)::K=>by
  have ih:=jl h K;unfold vh at ih ⊢
  by_cases z:b=T
  ·subst z;rw[List.filter_cons_of_neg (by simp),ih,List.lookup_cons,show(a == b)=false by simpa using h]
  ·rw[List.filter_cons_of_pos (by simpa using z),List.lookup_cons,List.lookup_cons,ih]
theorem zck{T:Addr}:∀K:PySem.W.Frag,(vh T K).lookup T=none
 |[]=>rfl
 |(b,o)::K=>by
  have ih:=zck (T:=T) K;unfold vh at ih ⊢
  by_cases z:b=T
  ·rw[List.filter_cons_of_neg (by simp[z]),ih]
  ·rw[List.filter_cons_of_pos (by simpa using z),List.lookup_cons,show(T == b)=false by simpa using Ne.symm z,ih]
section
variable {T a:Addr}{K:PySem.W.Frag}{h:Heap}
abbrev zc4:Obj:={ cls:=.none,data:=.fields #[] }
theorem zlk(X:K.In h):(vh T K).In h:=λb o e=>by
 by_cases z:b=T
 ·subst z;rw[zck]at e;cases e
 ·rw[jl z]at e;exact X b o e
theorem yc(X:K.In h)(gT:h.get? T=some zc4){o:Obj}(l:K.lookup a=some o)(n:o≠zc4):(vh T K).lookup a=some o:=by
 rw[jl λz=>n ?_]
 ·exact l
 ·have e:=X _ _ l;rw[z,gT]at e;exact(Option.some.inj e).symm
theorem zo{ns:Addr}(hg:ns≠T){x:Str}:PySem.W.nsIn (vh T K) ns x=PySem.W.nsIn K ns x:=by
 unfold PySem.W.nsIn;rw[jl hg]
theorem zr(X:K.In h)(gT:h.get? T=some zc4){cd:Value}{q:Str}(e:PySem.W.codeIn K cd q=true):PySem.W.codeIn (vh T K) cd q=true:=by
 obtain⟨c,o,vs,t,rfl,g,d,r⟩:=PySem.W.codeRec_of X e;have z:c≠T:=λz=>by
  subst z;rw[gT]at g
  cases g
  cases d
  cases r
 unfold PySem.W.codeIn at e ⊢;dsimp only at e ⊢;rw[jl z];exact e
theorem zt(X:K.In h)(gT:h.get? T=some zc4){oc:Value}{od:Option Addr}{fd:FuncData}{sl:Array (Option Value)}(l:K.lookup a=some ⟨oc,od,.func fd,sl⟩):PySem.W.keepIn (vh T K) (.ref a)=true:=by
 unfold PySem.W.keepIn;dsimp only;rw[yc X gT l (λz=>by cases z)]
theorem zpg{mg:Str->Option Value}(G:h.Ns mainGlobals mg)(gT:h.get? T=some zc4):mainGlobals≠T:=λz=>by
 obtain⟨o',es,ep,e,d,_⟩:=G;rw[z,gT]at e
 cases e
 cases d
def HdO(oc:Obj)(T:Addr):Prop:=∃vs file tf flags tg inF text tt,oc.cls=.type "code" /\ oc.data=.fields vs/\vs[11]?=some (.ref T)/\vs.getD 11 .none=.ref T/\vs.getD 18 .none=.str file tf /\
  vs.getD 7 .none=.int flags tg/\vs.getD 9 .none=.bool inF/\vs.getD 10 .none=.int text tt
theorem HdO.hd{oc:Obj}{c:Addr}(x:HdO oc T)(e:h.get? c=some oc)(n:c≠T):PySem.W.CodeHd h c T :=
 by obtain⟨vs,file,tf,flags,tg,inF,text,tt,r1,r2,r3,r4,r5,r6,r7,r8⟩:=x;exact⟨oc,vs,file,tf,flags,tg,inF,text,tt,e,r1,r2,r3,r4,r5,r6,r7,r8,n⟩
end
theorem zmy{P:Program}{w:World}{K:PySem.W.Frag}{mg mb:Str->Option Value}{k:Nat}{fa a T c:Addr}{oc:Obj}{fd:FuncData}{x q:Str}{sp:Sp}{s₁:Shared}{vs:List Value}{ns:List Int}
  (KX:K.In s₁.heap) (hTK:K.lookup T=none) (gT:s₁.heap.get? T=some zc4) (gc:s₁.heap.get? c=some oc) (hO:HdO oc T) (hcT:c≠T) (hB:zaa mg s₁.heap) (hns:s₁.heap.Ns mainGlobals mg) (hb:s₁.heap.Ns builtinsNs mb) (hbb:∀x:Str,x ≠ "__name__" -> mb x=bootBuiltins x) (hlim:s₁.heap.NoLimit) (hg:s₁.gens = #[])
  (ha:s₁.heap.get? a=some { cls:=.type "list",data:=.seq vs.toArray }) (hi:IntsAre vs ns) (hl:ns.length<=sizeLine) (hr:Room k callerA)
  (F:∀base:Heap,K.In base->base.Ns mainGlobals mg->zaa mg base->PySem.W.CodeHd base c T->FnOk P w K mg base CX0 k fa fd [x] (qz q T sp)) (hbind:∀(s:Shared) (u:Value),BindsTo s fd ⟨[u],[]⟩ [(x,u)])
  (hsp:∀H:Hp,SqL K H a (ns.map V.int)->sp [.ref a] H (λv _=>v=.bl true) λ_ _ _=>False) :
  codeAny (model P w) callerA (.call (.ref fa) ⟨[.ref a],[]⟩) (λr s'=>r=.ok (.ret (.bool true))/\OldK s₁.heap s'.heap/\s'.os=s₁.os/\AllBare s'.gens) s₁:=by
 have rv:=zfn hi;have lenV:=hi.length;have core:∀H:Hp,H T=some (.tbl #[.str q 0])->SqL K H a (ns.map V.int)->HOk P w H s₁.heap->(∀b,H b=none\/b=T\/(b=a/\K.lookup a=none/\∃o xs,H a=some (.frz o (.lst xs)))) ->
   codeAny (model P w) callerA (.call (.ref fa) ⟨[.ref a],[]⟩) (λr s'=>r=.ok (.ret (.bool true))/\OldK s₁.heap s'.heap/\s'.os=s₁.os/\AllBare s'.gens) s₁:=by
  intro H hT hS hok hA;have up:∀{b:Addr}{o:Obj},s₁.heap.get? b=some o->H b=none->(zdr s₁.heap H).get? b=some o:=λe n=>znh e n;have free:∀{b:Addr}{o:Obj},s₁.heap.get? b=some o->b≠T->(∀its n,o.data ≠ .seq its n)->H b=none:=λ{b o} e n d=>by
   rcases hA b with z|z |⟨z,_⟩
   ·exact z
   ·exact absurd z n
   ·subst z;rw[ha]at e;cases e;exact absurd rfl (d _ _)
  have nT:∀{b:Addr}{o:Obj},s₁.heap.get? b=some o->o.data ≠ .fields #[]->b≠T:=λ{b o} e d z=>by subst z;rw[gT]at e;cases e;exact d rfl
  have nsK:∀{b:Addr}{m:Str->Option Value},s₁.heap.Ns b m->(zdr s₁.heap H).Ns b m:=λ{b m} ⟨o,es,ep,e,d,r⟩=>⟨o,es,ep,up e (free e (nT e (by rw[d];intro z;cases z)) (by rw[d];intro _ _ z;cases z)),d,r⟩
  have hKb:K.In (zdr s₁.heap H):=λb o e=>up (KX b o e) (by
   rcases hA b with z|z |⟨z,z2,_⟩
   ·exact z
   ·rw[z,hTK]at e;cases e
   ·rw[z,z2]at e;cases e)
  have hBb:zaa mg (zdr s₁.heap H):=let ⟨bm,o,h1,h2,h3,h4,h5,h6⟩:=hB;⟨bm,o,h1,h2,up h3 (free h3 (nT h3 (by rw[h6];intro z;cases z)) (by rw[h6];intro _ _ z;cases z)),h4,h5,h6⟩;have hCb:PySem.W.CodeHd (zdr s₁.heap H) c T:=hO.hd (up gc (free gc hcT (by obtain⟨vs,_,_,_,_,_,_,_,_,r2,_⟩:=hO;rw[r2];intro _ _ z;cases z))) hcT;have hM:Mod K mg (zdr s₁.heap H):=⟨hKb,nsK hns,⟨mb,nsK hb,hbb⟩,let ⟨mc,h1,h2⟩:=hlim;⟨mc,nsK h1,h2⟩⟩
  have e0:Env0 P w K mg (zdr s₁.heap H) callerA [] s₁ H:=⟨rfl,hM,λb o e=>zp1 e,Nat.le_of_eq (zl1 _ _),trivial,λb hb=>absurd (show b∈([]:List Addr) from hb) (by simp),hok,.of_eq hg⟩
  refine codeAny_mono ((F _ hKb (nsK hns) hBb hCb).run callerA [] s₁ H ⟨[.ref a],[]⟩ [.ref a] [.ref a] _ _ hr e0 (hbind s₁ (.ref a)) (.cons rfl .nil) ⟨⟨0,#[],hT⟩,hsp H hS⟩) λr s' h=>?_
  cases r with
  |error e=>exact False.elim h
  |ok fl=>
   cases fl with
   |next=>exact False.elim h
   |brk=>exact False.elim h
   |cont=>exact False.elim h
   |ret u=>
    obtain⟨v,H',os,bare,un,hok',r',z⟩:=h;have z':v=.bl true:=z;subst z';obtain rfl:u=Value.bool true:=r';have tab:∃ps:Array Value,s'.heap.get? T=some { cls:=.none,data:=.fields ps }:=by
     obtain⟨m,e⟩:=un.tbls T _ hT;obtain⟨ps,_,_,_,g,_⟩:=(show zha H' s'.heap T _ from hok' T _ e)
     exact⟨ps,g⟩
    have all:∀b o,s₁.heap.get? b=some o->s'.heap.get? b=some o\/b=T:=λb o e=>by
     rcases hA b with z|z |⟨z,_,ob,xs,z2⟩
     ·exact .inl (un.keep b o e z (by intro y;exact absurd (show b∈([]:List Addr) from y) (by simp)) (by simp))
     ·exact .inr z
     ·subst z;obtain⟨e1,_⟩:=(show ObjOk P w H s₁.heap b _ from hok b _ z2)
      obtain⟨e2,_⟩:=(show ObjOk P w H' s'.heap b _ from hok' b _ (un.frzs b ob _ z2))
      rw[e]at e1;cases e1;exact .inl e2
    obtain⟨ps,gp⟩:=tab;refine⟨rfl,⟨λb o e=>?_,λb o e=>?_⟩,os,bare⟩
    ·rcases all b o e with z|z
     ·exact .inl z
     ·subst z;rw[gT]at e
      cases e;exact .inr (.inl ⟨((hO.hd gc hcT).tab gT).isCodeTable,rfl,#[],ps,rfl,by rw[gp];simp⟩)
    ·rcases all b o e with z|z
     ·exact⟨o,z⟩
     ·subst z;exact⟨_,gp⟩
 have nTa:a≠T:=λz=>by rw[z,gT]at ha;cases ha
 have tk:∀H:Hp,zha H s₁.heap T #[.str q 0]:=λH=>⟨#[],q,0,rfl,gT,trivial,λpos cv y=>by cases y⟩
 cases hk:K.lookup a with
 |some o=>
  have e:=KX a o hk;rw[ha]at e
  cases e;refine core (λb=>if b=T then some (.tbl #[.str q 0]) else none) (if_pos rfl) (.inr ⟨_,vs.toArray,_,hk,rfl,rfl,rfl,by rw[List.size_toArray,lenV];exact hl,by simpa using rv⟩) (λb u z=>?_) λb=>?_
  ·by_cases hb:b=T
   ·have z':=(if_pos hb).symm.trans z
    cases z';subst hb;exact tk _
   ·have z':=(if_neg hb).symm.trans z
    cases z'
  ·by_cases hb:b=T
   ·exact .inr (.inl hb)
   ·exact .inl (if_neg hb)
 |none=>
  have eT:(λb=>if b=T then some (HO.tbl #[.str q 0]) else if b=a then some (.frz { cls:=.type "list",data:=.seq vs.toArray } (.lst (ns.map V.int))) else none) T=some (.tbl #[.str q 0]):=if_pos rfl;have eA:(λb=>if b=T then some (HO.tbl #[.str q 0]) else if b=a then some (.frz { cls:=.type "list",data:=.seq vs.toArray } (.lst (ns.map V.int))) else none) a=some (.frz { cls:=.type "list",data:=.seq vs.toArray } (.lst (ns.map V.int))):=(if_neg nTa).trans (if_pos rfl);refine core (λb=>if b=T then some (HO.tbl #[.str q 0]) else if b=a then some (.frz { cls:=.type "list",data:=.seq vs.toArray } (.lst (ns.map V.int))) else none) eT (.inl (.inr ⟨{ cls:=.type "list",data:=.seq vs.toArray },eA⟩)) (λb u z=>?_) λb=>?_
  ·by_cases hb:b=T
   ·subst hb;rw[eT]at z
    cases z;exact tk _
   ·by_cases hb2:b=a
    ·subst hb2;rw[eA]at z
     cases z;exact⟨ha,by rw[List.length_map];exact hl,vs,_,rv,ha⟩
    ·have z':=((if_neg hb).trans (if_neg hb2)).symm.trans z
     cases z'
  ·by_cases hb:b=T
   ·exact .inr (.inl hb)
   ·by_cases hb2:b=a
    ·exact .inr (.inr ⟨hb2,hk,_,_,eA⟩)
    ·exact .inl ((if_neg hb).trans (if_neg hb2))
theorem walk_ofT{l:PySem.W.OpenLaw}{n k:Nat}{ql:Program}{loose:List Str}{XP:(Str->Option Value)->Heap->Prop}{YP:World->Heap->Prop}{d:DefRec}{K:Params->PySem.W.Frag}{sp:World->Sp}{x q:Str}{T:Addr}
  (hn:l.most=some n) (hn2:n<=sizeLine) (hdf:d.params.defaults = []) (hr:Room k callerA)
  (hY:∀(w:World) (h:Heap),YP w h->(K w.params).In h/\h.get? T=some zc4)
  (F:∀(w:World) (mg:Str->Option Value) (fa:Addr) (h:Heap),(K w.params).In h->h.get? T=some zc4->h.Ns mainGlobals mg->mg d.name=some (.ref fa) ->
   ∃fd:FuncData,(∀(s:Shared) (u:Value),BindsTo s fd ⟨[u],[]⟩ [(x,u)])/\∃(c:Addr) (oc:Obj),(K w.params).lookup c=some oc/\HdO oc T/\c≠T /\
    ∀base:Heap,(vh T (K w.params)).In base->base.Ns mainGlobals mg->zaa mg base->PySem.W.CodeHd base c T->FnOk l.prog w (vh T (K w.params)) mg base CX0 k fa fd [x] (qz q T (sp w)))
  (hsp:∀(w:World) (H:Hp) (a:Addr) (ns:List Int),ns.length<=n->SqL (vh T (K w.params)) H a (ns.map V.int)->sp w [.ref a] H (λv _=>v=.bl true) λ_ _ _=>False) :
  PySem.W.WalkO ql loose XP YP l.row.toRowW d [] (λf vs=>PySem.call f vs):=by
 refine Att.attach_call hn hdf λw s₀ s₁ mg mb fa o pm cd doc a vs ns G Y ho hd hcd hmg hobj hints hlen hg=>?_;obtain⟨KX,gT⟩:=hY w _ Y;obtain⟨fd,hb,c,oc,lc,hO,ne,hF⟩:=F w mg fa _ KX gT G.T.g hmg;obtain⟨bm,ob,b1,b2,b3,b4,b5,b6⟩:=G.T.bmain;exact zmy (zlk KX) (zck _) gT (KX _ _ lc) hO ne ⟨bm,ob,b1,b2,b3,b4,b5,b6⟩ G.T.g G.T.b G.T.builtins G.T.nolimit hg hobj hints (Nat.le_trans hlen hn2) hr hF hb (λH hS=>hsp w H a ns hlen hS)
def zwi(k:Str):Value->Bool
 |.str x _=>x == k
 |_=>false
theorem zre{xs:List Str}{its:List Value}(r:Vals (xs.map V.str) its):∀y∈its,∃x t,y=.str x t:=by
 induction xs generalizing its with
 |nil=>cases r;intro y h;cases h
 |cons n ns ih=>
  cases r with
  |cons h t=>
   intro y hy;rcases List.mem_cons.mp hy with rfl|hy
   ·obtain⟨tk,rfl⟩:=h;exact⟨_,_,rfl⟩
   ·exact ih t y hy
theorem zh8{xs:List Str}{its:List Value}(r:Vals (xs.map V.str) its)(k:Str):its.countP (zwi k)=xs.count k:=by
 induction xs generalizing its with
 |nil=>cases r;rfl
 |cons n ns ih=>
  cases r with
  |cons h t=>
   obtain⟨tk,rfl⟩:=h;rw[List.countP_cons,ih t,List.count_cons];rfl
theorem zf2{K:PySem.W.Frag}{H:Hp}:∀{xs:List Str}{vs:List V},Reps K H (xs.map PyData.str) vs->vs=xs.map V.str
 |[],_,.nil=>rfl
 |x::xs,_,.cons r t=>by cases r;rw[zf2 t];rfl
section
variable {prog:Program}{w:World}{A:Around}{R:Result->Shared->Prop}{s:Shared}{elt t1 i1 t2 i2:Expr}{f1 f2:List Expr}{scope:Scope}{pos:Pos}{it acc:Value}{env:Env}
abbrev LC2(elt t1 i1 t2 i2:Expr)(f1 f2:List Expr)(scope:Scope)(pos:Pos):Expr:=.ListComp elt [⟨t1,i1,f1,0⟩,⟨t2,i2,f2,0⟩] scope pos
theorem zwj(elt t1 i1 t2 i2:Expr)(f1 f2:List Expr)(scope:Scope)(pos:Pos)(it acc:Value)(env:Env):compTurn (LC2 elt t1 i1 t2 i2 f1 f2 scope pos) 0 it acc env=(do
  standAt i1.pos
  match <-pyNext it with
  |none=>pure (.done .next)
  |some v=>
   letOwnedTupleGo t1 it v
   assign t1 env v
   let mut ok:=true
   for c in f1 do
    if ok then ok <-isTrue c env (eval c env)
   if ok then
    let x <-eval i2 env
    standAt i2.pos
    let x <-foldedSetIterable i2 env x
    let _ <-runOwn (.compStart (LC2 elt t1 i1 t2 i2 f1 f2 scope pos) 1 (<-holding [x] (pyIter x)) acc env) env
   again (.compLoop (LC2 elt t1 i1 t2 i2 f1 f2 scope pos) 0 it acc env)):=by rfl
theorem zwk(elt t1 i1 t2 i2:Expr)(f1 f2:List Expr)(scope:Scope)(pos:Pos)(it acc:Value)(env:Env):compTurn (LC2 elt t1 i1 t2 i2 f1 f2 scope pos) 1 it acc env=(do
  standAt i2.pos
  match <-pyNext it with
  |none=>pure (.done .next)
  |some v=>
   letOwnedTupleGo t2 it v
   assign t2 env v
   let mut ok:=true
   for c in f2 do
    if ok then ok <-isTrue c env (eval c env)
   if ok then
    (do let _ <-call (.builtin "list.append") [acc,<-eval elt env])
   again (.compLoop (LC2 elt t1 i1 t2 i2 f1 f2 scope pos) 1 it acc env)):=by rfl
theorem zmz(I:Nat->Shared->Prop)
  (turn:∀n s,I n s->wpAny (model prog w) A (pyNext it) (λr s1=>match r with
   |none=>R (.ok .next) s1
   |some v=>wpAny (model prog w) A (letOwnedTupleGo t2 it v) (λ_ s1'=>wpAny (model prog w) A (assign t2 env v) (λ_ s2=>
     wpAny (model prog w) A (forIn f2 true λc r=>if r=true then do let ok <-isTrue c env (eval c env);pure (ForInStep.yield ok) else pure (ForInStep.yield r)) (λok s3=>
      if ok=true then wpAny (model prog w) A (eval elt env) (λx s4=>
       wpAny (model prog w) A (call (.builtin "list.append") [acc,x]) (λ_ s5=>∃m,m<n/\I m s5) (λ_ _=>False) s4) (λ_ _=>False) s3
      else ∃m,m<n/\I m s3) (λ_ _=>False) s2) (λ_ _=>False) s1') (λ_ _=>False) s1) (λ_ _=>False) s)
  (n:Nat) (h:I n s):codeAny (model prog w) A (.compLoop (LC2 elt t1 i1 t2 i2 f1 f2 scope pos) 1 it acc env) R s:=by
 refine codeAny_loop rfl I (λn s hI=>?_) n h;show wpAny _ A ((compTurn (LC2 elt t1 i1 t2 i2 f1 f2 scope pos) 1 it acc env).onRaise (λx=>do noteFrame x env;theTreesLotGoes x)) _ _ s;refine wpAny_noted ?_;rw[zwk];refine wpAny_bind (wpAny_standAt (wpAny_bind (wpAny_mono (turn n s hI) (λr s1 h1=>?_) λ_ _ h'=>h'.elim)))
 cases r with
 |none=>exact wpAny_pure h1
 |some v=>
  refine wpAny_bind (wpAny_mono h1 (λ_ s1' h1'=>?_) λ_ _ h'=>h'.elim);refine wpAny_bind (wpAny_mono h1' (λ_ s2 h2=>wpAny_bind (wpAny_mono h2 (λok s3 h3=>?_) λ_ _ h'=>h'.elim)) λ_ _ h'=>h'.elim)
  cases ok with
  |false=>exact wpAny_pure ⟨rfl,h3⟩
  |true=>exact wpAny_bind (wpAny_bind (wpAny_mono h3 (λx s4 h4=>wpAny_bind (wpAny_mono h4 (λ_ s5 h5=>wpAny_pure (wpAny_pure ⟨rfl,h5⟩)) λ_ _ h'=>h'.elim)) λ_ _ h'=>h'.elim))
theorem zun(h0:codeAny (model prog w) A (.compLoop (LC2 elt t1 i1 t2 i2 f1 f2 scope pos) 1 it acc env) R s)
  (h:wpAny (model prog w) A (pyIter it) (λit' s'=>codeAny (model prog w) A (.compLoop (LC2 elt t1 i1 t2 i2 f1 f2 scope pos) 1 it' acc env) R s') (λ_ _=>False) s) :
  codeAny (model prog w) A (.compStart (LC2 elt t1 i1 t2 i2 f1 f2 scope pos) 1 it acc env) R s:=by
 refine codeAny_of_tree ?_;show wpAny _ _ ((compStart (LC2 elt t1 i1 t2 i2 f1 f2 scope pos) 1 it acc env).onRaise (λx=>do noteFrame x env;standAt theWindowsPlace)) _ _ s;refine wpAny_notedAt ?_;unfold compStart;show wpAny _ _ (ask >>= _) _ _ s;refine wpAny_bind (wpAny_askSetting (wpAny_ite ?_))
 split
 ·first
   |exact wpAny_bind (wpAny_pure (wpAny_pure (And.intro rfl h0)))
   |exact wpAny_pure (And.intro rfl h0)
 ·refine wpAny_bind (wpAny_rule ?_);show wpAny _ _ (standAt i2.pos >>= _) _ _ s;exact wpAny_bind (wpAny_standAt (wpAny_bind (wpAny_mono h (λit' s' h'=>wpAny_pure (And.intro rfl h')) λ_ _ x=>x.elim)))
theorem zm0(I:Nat->Shared->Prop)(hs:∀x,foldedSetIterable i2 env x=pure x)
  (turn:∀n s,I n s->wpAny (model prog w) A (pyNext it) (λr s1=>match r with
   |none=>R (.ok .next) s1
   |some v=>wpAny (model prog w) A (letOwnedTupleGo t1 it v) (λ_ s1'=>wpAny (model prog w) A (assign t1 env v) (λ_ s2=>
     wpAny (model prog w) A (forIn f1 true λc r=>if r=true then do let ok <-isTrue c env (eval c env);pure (ForInStep.yield ok) else pure (ForInStep.yield r)) (λok s3=>
      if ok=true then wpAny (model prog w) A (eval i2 env) (λx s4=>wpAny (model prog w) A (pyIter x) (λit2 s5=>
       codeAny (model prog w) A (.compStart (LC2 elt t1 i1 t2 i2 f1 f2 scope pos) 1 it2 acc env) (λr s6=>match r with|.ok _=>∃m,m<n/\I m s6|.error _=>False) s5) (λ_ _=>False) s4) (λ_ _=>False) s3
      else ∃m,m<n/\I m s3) (λ_ _=>False) s2) (λ_ _=>False) s1') (λ_ _=>False) s1) (λ_ _=>False) s)
  (n:Nat) (h:I n s):codeAny (model prog w) A (.compLoop (LC2 elt t1 i1 t2 i2 f1 f2 scope pos) 0 it acc env) R s:=by
 refine codeAny_loop rfl I (λn s hI=>?_) n h;show wpAny _ A ((compTurn (LC2 elt t1 i1 t2 i2 f1 f2 scope pos) 0 it acc env).onRaise (λx=>do noteFrame x env;theTreesLotGoes x)) _ _ s;refine wpAny_noted ?_;rw[zwj];refine wpAny_bind (wpAny_standAt (wpAny_bind (wpAny_mono (turn n s hI) (λr s1 h1=>?_) λ_ _ h'=>h'.elim)))
 cases r with
 |none=>exact wpAny_pure h1
 |some v=>
  refine wpAny_bind (wpAny_mono h1 (λ_ s1' h1'=>?_) λ_ _ h'=>h'.elim);refine wpAny_bind (wpAny_mono h1' (λ_ s2 h2=>wpAny_bind (wpAny_mono h2 (λok s3 h3=>?_) λ_ _ h'=>h'.elim)) λ_ _ h'=>h'.elim)
  cases ok with
  |false=>exact wpAny_pure ⟨rfl,h3⟩
  |true=>
   refine wpAny_bind (wpAny_mono h3 (λx s4 h4=>?_) λ_ _ h'=>h'.elim);refine wpAny_bind (wpAny_standAt ?_);rw[hs x];refine wpAny_bind (wpAny_pure (wpAny_bind (wpAny_holding (wpAny_mono h4 (λit2 s5 h5=>?_) λ_ _ h'=>h'.elim))));refine wpAny_bind (wpAny_runOwn ?_);refine codeAny_mono h5 λr s6 h6=>?_
   cases r with
   |ok f=>exact wpAny_pure ⟨rfl,h6⟩
   |error e=>exact h6.elim
end
section
variable {X:Cx}
def zec(J:It)(D:Addr)(g:TG)(tt:TT)(wi2:TI)(g2:TG)(tt2:TT)(te:TE)(σ0:St)(H1:Hp)(Q:VK):Prop :=
 ∃W:Nat->Nat->St->Hp->Prop,(∃m,W 0 m σ0 (upd H1 D (.lst [])))/\∀i m σ H,W i m σ H ->
  (J.stop i H/\Q (.ref D) H)\/(J.go i H/\∀x H',J.yld i H x H'->g x σ H' λσ2 H2=>tt σ2 H2 λb H3=>
   if b=true then wi2 σ2 H3 λJ2 H4=>∃W2:Nat->Nat->St->Hp->Prop,(∃m2,W2 0 m2 σ2 H4)/\∀i2 n2 σ' H',W2 i2 n2 σ' H' ->
    (J2.stop i2 H'/\∃m',m' < m/\W (i+1) m' σ' H')\/(J2.go i2 H'/\∀x H5,J2.yld i2 H' x H5->g2 x σ' H5 λσ6 H6=>tt2 σ6 H6 λb H7=>
     if b=true then te σ6 H7 λy H8=>∃ys,H8 D=some (.lst ys)/\ys.length<sizeLine/\∃m',m' < n2/\W2 (i2+1) m' σ6 (upd H8 D (.lst (ys ++ [y])))
     else ∃m',m' < n2/\W2 (i2+1) m' σ6 H7)
   else ∃m',m' < m/\W (i+1) m' σ2 H3)
def zxh(k:Nat)(js:List Nat)(wi:TI)(g:TG)(tt:TT)(wi2:TI)(g2:TG)(tt2:TT)(te:TE):TE:=λσ H Q=>wi σ H λJ H1=>∀D,H1 D=none->zec J D g tt wi2 g2 tt2 te (yw k js σ) H1 Q
theorem zuo{elt t1 i1 t2 i2:Expr}{f1 f2:List Expr}{scope:Scope}{pos:Pos}{cl:List (Str×Addr)}{N':List Str}{C:Addr}{fp:List Addr}{s2:Shared}{H2:Hp}{g2:TG}{tt2:TT}{te:TE}{D:Addr}
  (hg:PG (yy X N' scope cl C fp s2 H2) t2 g2) (ht:PTs (yy X N' scope cl C fp s2 H2) f2 tt2) (he:PE (yy X N' scope cl C fp s2 H2) elt te)
  {pins:List (Addr×Obj)}{σ:St}{H:Hp}{s:Shared}{J:It}{fq:List Addr}{it:Addr}{tn:Nat->Heap->Prop}{W:Nat->Nat->St->Hp->Prop}{Z:St->Hp->Prop}{m0:Nat}
  (I:Inv (yy X N' scope cl C fp s2 H2) pins σ H s) (T:zgb X.prog X.w X.K t2 J fq it tn) (st:tn 0 s.heap) (f:∀b∈fq,FpOk (yy X N' scope cl C fp s2 H2) pins H b) (w0:W 0 m0 σ H)
  (turn:∀i n σ' H',W i n σ' H'->(J.stop i H'/\Z σ' H')\/(J.go i H'/\∀x H5,J.yld i H' x H5->g2 x σ' H5 λσ6 H6=>tt2 σ6 H6 λb H7=>
   if b=true then te σ6 H7 λy H8=>∃ys,H8 D=some (.lst ys)/\ys.length<sizeLine/\∃m',m' < n/\W (i+1) m' σ6 (upd H8 D (.lst (ys ++ [y]))) else ∃m',m' < n/\W (i+1) m' σ6 H7)) :
  codeAny (model X.prog X.w) X.A (.compLoop (LC2 elt t1 i1 t2 i2 f1 f2 scope pos) 1 (.ref it) (.ref D) (compEnvC scope cl C X.env)) (λr s'=>match r with|.ok _=>∃σ' H',Inv (yy X N' scope cl C fp s2 H2) pins σ' H' s'/\Z σ' H'|.error _=>False) s:=by
 have stat:∀{H':Hp},(∀b∈fq,H' b=none)->∀b∈fq,FpOk (yy X N' scope cl C fp s2 H2) pins H' b:=λhn b hb=>⟨hn b hb,(f b hb).2⟩
 refine zmz (λn s'=>∃i σ' H',Inv (yy X N' scope cl C fp s2 H2) pins σ' H' s'/\tn i s'.heap/\(∀b∈fq,H' b=none)/\W i n σ' H') ?_ m0 ⟨0,_,_,I,st,λb hb=>(f b hb).1,w0⟩;intro n s3 zz;refine gg λG zk=>?_;obtain⟨i,σ3,H3,I3,st3,fr3,w3⟩:=zz;refine zk ?_;clear zk;rcases turn i n σ3 H3 w3 with⟨stop,qn⟩ |⟨go,step⟩
 ·refine thn (T.done (yy X N' scope cl C fp s2 H2) rfl rfl rfl rfl i pins s3 σ3 H3 (λ_ _=>False) I3 (stat fr3) st3 stop) λr s4 ⟨hr,J4⟩=>?_;subst hr;exact⟨σ3,H3,J4,qn⟩
 ·refine thn (T.item (yy X N' scope cl C fp s2 H2) rfl rfl rfl rfl i pins s3 σ3 H3 (λ_ _=>False) I3 (stat fr3) st3 go) λr s4 ⟨u,hr,h4⟩=>?_;subst hr;refine thn h4 λ_ s5 zr36=>?_;obtain⟨x,H5,I5,r5,y5,st5,fr5⟩:=zr36;have I5':=I5.pinned (stat fr5) (T.obj _ _ st5);refine thn (hg _ s5 σ3 H5 x u _ I5' r5 (step x H5 y5)) λ_ s6 zr38=>?_;obtain⟨σ6,H6,I6,q6⟩:=zr38;refine thn (ht _ s6 σ6 H6 _ I6 q6) λok s7 ⟨H7,I7,q7⟩=>?_
  have again:∀{H8:Hp}{s8:Shared},Inv (yy X N' scope cl C fp s2 H2) (pins++za3 fq s5.heap) σ6 H8 s8->(∃m',m' < n/\W (i+1) m' σ6 H8)->∃m,m<n/\∃i σ' H',Inv (yy X N' scope cl C fp s2 H2) pins σ' H' s8/\tn i s8.heap/\(∀b∈fq,H' b=none)/\W i m σ' H':=λ{H8 s8} I8 n8=>by
   obtain⟨m',hm,w8⟩:=n8;refine⟨m',hm,i+1,σ6,H8,I8.unpinned,T.keep _ _ _ st5 λb hb o e=>(I8.pin (b,o) (List.mem_append_right _ (List.mem_append_right _ (wn hb e)))).1,λb hb=>?_,w8⟩;obtain⟨o,e,d⟩:=T.obj _ _ st5 b hb;exact(I8.pin (b,o) (List.mem_append_right _ (List.mem_append_right _ (wn hb e)))).2.1
  cases ok with
  |false=>
   rw[if_neg Bool.false_ne_true]at q7;exact again I7 q7
  |true=>
   rw[if_pos rfl]at q7;refine thn (he _ s7 σ6 H7 _ I7 q7) λy s8 zr51=>?_;obtain⟨v8,H8,I8,r8,q8⟩:=zr51;obtain⟨ys,e8,z8,w8⟩:=q8;refine thn (je (X:=yy X N' scope cl C fp s2 H2) _ s8 σ6 H8 (.ref D) [v8] (.ref D) [y] (λv H=>∃m',m' < n/\W (i+1) m' σ6 H) I8 rfl (.cons r8 .nil) ⟨D,ys,v8,rfl,rfl,e8,z8,w8⟩) λ_ s9 zr53=>?_;obtain⟨v9,H9,I9,_,w9⟩:=zr53;exact again I9 w9
theorem zm1{elt tg iter t2 i2:Expr}{ifs ifs2:List Expr}{wi2:TI}{g2:TG}{tt2:TT}{scope:Scope}{pos:Pos}{cl:List (Str×Addr)}{N' capt:List Str}{k:Nat}{js:List Nat}{g:TG}{tt:TT}{te:TE}{J:It}{fp:List Addr}{tn:Nat->Heap->Prop}{it:Addr}
  {pins:List (Addr×Obj)}{σ:St}{H2:Hp}{s2:Shared}{Q:VK}{E:Value->Shared->Prop} (hc:X.calm=true) (L:ze6 X scope cl N' capt k js)
  (hg:∀C fp s2 H2,PG (yy X N' scope cl C fp s2 H2) tg g) (ht:∀C fp s2 H2,PTs (yy X N' scope cl C fp s2 H2) ifs tt) (hi2:∀C fp s2 H2,PI (yy X N' scope cl C fp s2 H2) t2 i2 wi2) (hg2:∀C fp s2 H2,PG (yy X N' scope cl C fp s2 H2) t2 g2) (ht2:∀C fp s2 H2,PTs (yy X N' scope cl C fp s2 H2) ifs2 tt2) (he:∀C fp s2 H2,PE (yy X N' scope cl C fp s2 H2) elt te) (hs2:∀C x,foldedSetIterable i2 (compEnvC scope cl C X.env) x=pure x)
  (I2:Inv X pins σ H2 s2) (T:zgb X.prog X.w X.K tg J fp it tn) (st2:tn 0 s2.heap) (f2:∀b∈fp,FpOk X pins H2 b) (q:∀D,H2 D=none->zec J D g tt wi2 g2 tt2 te (yw k js σ) H2 Q) :
  wpAny (model X.prog X.w) X.A (newList []) (λacc s3=>wpAny (model X.prog X.w) X.A (newFunctionEnv scope X.env.globals cl [] X.env.qual none .none (some X.env)) (λcenv s4=>
   codeAny (model X.prog X.w) X.A (.compStart (LC2 elt tg iter t2 i2 ifs ifs2 scope pos) 0 (.ref it) acc { cenv with scope:=relabel scope X.env }) (LcEnd X pins σ Q acc cenv.locals) s4) E s3) E s2:=by
 refine wpAny_newObj_type (wpAny_newFunctionEnv L.cell (by intro y hy;simp at hy) (λh₁ hns₁ hsb₁=>?_) L.kind);dsimp only at hns₁ hsb₁ ⊢;generalize hH2:s2.heap.push { cls:=.type "list",dict:=none,data:=.seq ([]:List Value).toArray }=G at hns₁ hsb₁ ⊢;have hC:G.objs.size=s2.heap.objs.size+1:=by rw[<-hH2,Heap.size_push]
 have hDC:s2.heap.objs.size≠G.objs.size:=by rw[hC];exact Nat.ne_of_lt (Nat.lt_succ_self _)
 have hCle:s2.heap.objs.size<=G.objs.size:=by rw[hC];exact Nat.le_succ _
 have below:∀b,b<s2.heap.objs.size->b≠G.objs.size:=λb hb=>by rw[hC];exact Nat.ne_of_lt (Nat.lt_succ_of_lt hb)
 have keep:∀b o,s2.heap.get? b=some o->h₁.get? b=some o:=λb o e=>hsb₁.extBut b o (below b (Heap.lt_size e)) (Heap.get?_push_of_some _ (hH2 ▸ Heap.get?_push_of_some _ e));have hl:h₁.get? s2.heap.objs.size=some { cls:=.type "list",data:=.seq #[] 0 }:=hsb₁.extBut _ _ hDC (Heap.get?_push_of_some _ (hH2 ▸ Heap.get?_push_size _ rfl));have ho2:=T.obj _ _ st2;have ok:(yy X N' scope cl G.objs.size fp s2 H2).Ok:=zr5 I2 hc L.kind hCle L.sub L.has f2 ho2;generalize hD:s2.heap.objs.size=D at hl hDC ⊢;generalize hCC:G.objs.size=C at hns₁ hsb₁ hDC hC hCle below ok ⊢;have hDle:s2.heap.objs.size<=D:=by rw[hD];exact Nat.le_refl _
 have I4:Inv (yy X N' scope cl C fp s2 H2) [] (yw k js σ) (upd H2 D (.lst [])) { s2 with heap:=h₁,toks:=s2.toks+([]:List (Str×Value)).length } :=
  zhi I2 ok hDle hCle hDC keep hns₁ hl L.sub L.cap L.hN L.hk
 obtain⟨W,⟨m0,w0⟩,turn⟩:=q D (I2.hok.fresh hDle);have tn0:tn 0 h₁:=T.keep _ _ _ st2 λb _ o e=>keep b o e;have fr0:∀b∈fp,upd H2 D (.lst []) b=none:=λb hb=>by
  obtain⟨o,e,_⟩:=ho2 b hb;rw[ya (Nat.ne_of_lt (Nat.lt_of_lt_of_le (Heap.lt_size e) hDle))];exact(f2 b hb).1
 have stat:∀{H':Hp},(∀b∈fp,H' b=none)->∀b∈fp,FpOk (yy X N' scope cl C fp s2 H2) [] H' b:=λhn b hb=>by
  refine⟨hn b hb,(ok.exf b hb).1,ok.exfs b hb,.inl hb,(ok.exf b hb).2,λp hp=>absurd (show p∈([]:List (Addr×Obj)) from hp) (by simp)⟩
 have loop:∀s₃:Shared,s₃ = { s2 with heap:=h₁,toks:=s2.toks+([]:List (Str×Value)).length } ->
   codeAny (model X.prog X.w) X.A (.compLoop (LC2 elt tg iter t2 i2 ifs ifs2 scope pos) 0 (.ref it) (.ref D) (compEnvC scope cl C X.env)) (LcEnd X pins σ Q (.ref D) C) s₃:=by
  rintro s₃ rfl;refine zm0 (λn s'=>∃i σ' H',Inv (yy X N' scope cl C fp s2 H2) [] σ' H' s'/\tn i s'.heap/\(∀b∈fp,H' b=none)/\W i n σ' H') (hs2 C) ?_ m0 ⟨0,_,_,I4,tn0,fr0,w0⟩;intro n s3 zz;refine gg λG zk=>?_;obtain⟨i,σ3,H3,I3,st3,fr3,w3⟩:=zz;refine zk ?_;clear zk;rcases turn i n σ3 H3 w3 with⟨stop,qn⟩ |⟨go,step⟩
  ·refine thn (T.done (yy X N' scope cl C fp s2 H2) rfl rfl rfl rfl i [] s3 σ3 H3 (λ_ _=>False) I3 (stat fr3) st3 stop) λr s4 ⟨hr,J4⟩=>?_;subst hr;obtain⟨m,hn,_⟩:=id J4.loc;have hs:X.s₀.heap.objs.size<=C:=Nat.le_trans I2.sz hCle;refine⟨.next,D,H3,m,rfl,rfl,I2.call' (ch:=fp) J4.os J4.base J4.hok J4.bare (λb hb=>?_),qn,hn,J4.free,λz=>?_,hs,λx c h z=>?_,λp hp z=>?_⟩
   ·obtain⟨f0,f1,f2',f3,f4,f5⟩:=f2 b hb;exact⟨f3,f1,f4,f5⟩
   ·have:=I2.lt;rw[<-z]at this;exact absurd (Nat.lt_of_lt_of_le this hCle) (Nat.lt_irrefl _)
   ·obtain⟨v,o,z1,_⟩:=I2.cell x c h;have:=Heap.lt_size z1;rw[z]at this;exact absurd (Nat.lt_of_lt_of_le this hCle) (Nat.lt_irrefl _)
   ·have:=Heap.lt_size (I2.pin p hp).1;rw[z]at this;exact absurd (Nat.lt_of_lt_of_le this hCle) (Nat.lt_irrefl _)
  ·refine thn (T.item (yy X N' scope cl C fp s2 H2) rfl rfl rfl rfl i [] s3 σ3 H3 (λ_ _=>False) I3 (stat fr3) st3 go) λr s4 ⟨u,hr,h4⟩=>?_;subst hr;refine thn h4 λ_ s5 zr21=>?_;obtain⟨x,H5,I5,r5,y5,st5,fr5⟩:=zr21;have I5':=I5.pinned (stat fr5) (T.obj _ _ st5);refine thn (hg C fp s2 H2 _ s5 σ3 H5 x u _ I5' r5 (step x H5 y5)) λ_ s6 zr23=>?_;obtain⟨σ6,H6,I6,q6⟩:=zr23;refine thn (ht C fp s2 H2 _ s6 σ6 H6 _ I6 q6) λok s7 ⟨H7,I7,q7⟩=>?_
   have again:∀{σ8:St}{H8:Hp}{s8:Shared},Inv (yy X N' scope cl C fp s2 H2) ([]++za3 fp s5.heap) σ8 H8 s8->(∃m',m' < n/\W (i+1) m' σ8 H8)->∃m,m<n/\∃i σ' H',Inv (yy X N' scope cl C fp s2 H2) [] σ' H' s8/\tn i s8.heap/\(∀b∈fp,H' b=none)/\W i m σ' H':=λ{σ8 H8 s8} I8 n8=>by
    obtain⟨m',hm,w8⟩:=n8;refine⟨m',hm,i+1,σ8,H8,I8.unpinned,T.keep _ _ _ st5 λb hb o e=>(I8.pin (b,o) (List.mem_append_right _ (List.mem_append_right _ (wn hb e)))).1,λb hb=>?_,w8⟩;obtain⟨o,e,d⟩:=T.obj _ _ st5 b hb;exact(I8.pin (b,o) (List.mem_append_right _ (List.mem_append_right _ (wn hb e)))).2.1
   cases ok with
   |false=>
    rw[if_neg Bool.false_ne_true]at q7;exact again I7 q7
   |true=>
    rw[if_pos rfl]at q7;refine thn (hi2 C fp s2 H2 _ s7 σ6 H7 _ I7 q7) λy s8 h8=>thn h8 λitv s9 h9=>?_;obtain⟨it2,fp2,tn2,J2,H9,e9,I9,T2,st9,f9,W2,⟨m2,w2⟩,turn2⟩:=h9;subst e9;have inner:=zuo (pos:=pos) (i1:=iter) (t1:=tg) (f1:=ifs) (i2:=i2) (hg2 C fp s2 H2) (ht2 C fp s2 H2) (he C fp s2 H2) I9 T2 st9 f9 w2 turn2;refine zun (codeAny_mono inner λr s10 h10=>?_) (T2.self _ 0 _ _ _ st9 (codeAny_mono inner λr s10 h10=>?_))
    all_goals
     cases r with
     |ok f=>
      obtain⟨σ10,H10,I10,w10⟩:=h10;exact again I10 w10
     |error e=>exact h10
 exact codeAny_compStart_list (loop _ rfl) (T.self _ 0 _ _ _ tn0 (loop _ rfl))
theorem zup{elt tg iter t2 i2:Expr}{ifs ifs2:List Expr}{scope:Scope}{pos:Pos}{cl:List (Str×Addr)}{N' capt:List Str}{k:Nat}{js:List Nat}{wi wi2:TI}{g g2:TG}{tt tt2:TT}{te:TE}(hc:X.calm=true)(L:ze6 X scope cl N' capt k js)
  (hi:PI X tg iter wi) (hg:∀C fp s2 H2,PG (yy X N' scope cl C fp s2 H2) tg g) (ht:∀C fp s2 H2,PTs (yy X N' scope cl C fp s2 H2) ifs tt)
  (hi2:∀C fp s2 H2,PI (yy X N' scope cl C fp s2 H2) t2 i2 wi2) (hg2:∀C fp s2 H2,PG (yy X N' scope cl C fp s2 H2) t2 g2) (ht2:∀C fp s2 H2,PTs (yy X N' scope cl C fp s2 H2) ifs2 tt2)
  (he:∀C fp s2 H2,PE (yy X N' scope cl C fp s2 H2) elt te) (hs2:∀C x,foldedSetIterable i2 (compEnvC scope cl C X.env) x=pure x:=by intro _ _;rfl)
  (hs:∀x,foldedSetIterable iter X.env x=pure x:=by intro _;rfl):PE X (LC2 elt tg iter t2 i2 ifs ifs2 scope pos) (zxh k js wi g tt wi2 g2 tt2 te):=by
 intro pins s σ H Q I h;rw[eval_ListComp];refine wpAny_comprehension_free (use:=none) rfl hs L.clos L.kind L.names (thn (hi pins s σ H _ I h) λv s1 h1=>thn h1 λitv s2 h2=>?_);obtain⟨it,fp,tn,J,H2,e,I2,T,st2,f2,q⟩:=h2;subst e;refine thn (zm1 (E:=X.xe) hc L hg ht hi2 hg2 ht2 he hs2 I2 T st2 f2 q) λacc s3 h3=>thn h3 λcenv s4 h4=>codeAny_mono h4 λr s' hr=>?_;obtain⟨f,D,H',m,rfl,rfl,J',qq,hn,b1,b2,b3,b4,b5⟩:=hr;exact⟨m,hn,λh' hsb=>⟨.ref D,H',LcEnd.let_go J' b1 b2 b3 b4 b5 hsb,rfl,qq⟩⟩
end
def zuq:Option W->Option W
 |some (.own _)=>none
 |some (.tmp _)=>none
 |w=>w
def jd(is:List Nat)(n:Nat):DSt->DSt
 |[]=>[]
 |w::ws=>(if n∈is then none else zuq w)::jd is (n+1) ws
theorem zll(is:List Nat):∀(σ:DSt) (n j:Nat),n+j∈is->j<σ.length->(jd is n σ)[j]?=some none
 |[],_,_,_,h=>absurd h (Nat.not_lt_zero _)
 |w::ws,n,0,h,_=>by
  rw[Nat.add_zero]at h;simp[jd,h]
 |w::ws,n,j+1,h,hl=>by
  rw[jd,List.getElem?_cons_succ];exact zll is ws (n+1) j (by rw[show n+1+j=n+(j+1) by omega];exact h) (by simpa using hl)
section
variable {K:PySem.W.Frag}{H₀ H H':Hp}
theorem Slots.dry(is:List Nat)(p:Pers H H'){σD:DSt}{σ:St}{fp:List Addr}(h:Slots K H₀ H σD σ fp):∀n,Slots K H₀ H' (jd is n σD) σ []:=by
 induction h with
 |nil=>exact λn=>.nil
 |none t ih=>
  intro n;unfold jd
  split <;> exact .none (ih _)
 |val r t ih=>
  intro n;unfold jd
  split
  ·exact .none (ih _)
  ·exact .val (r.mono p) (ih _)
 |vw r t ih=>
  intro n;unfold jd
  split
  ·exact .none (ih _)
  ·exact .vw r (ih _)
 |vd r t ih=>
  intro n;unfold jd
  split
  ·exact .none (ih _)
  ·exact .vd r (ih _)
 |exc r t ih=>
  intro n;unfold jd
  split
  ·exact .none (ih _)
  ·exact .exc r (ih _)
 |scr r t ih=>
  intro n;unfold jd
  split
  ·exact .none (ih _)
  ·exact .scr r (ih _)
 |pen r t ih=>
  intro n;unfold jd
  split
  ·exact .none (ih _)
  ·exact .pen (p _ _ r rfl) (ih _)
 |tmp r t ih=>
  intro n;unfold jd
  split <;> exact .none (ih _)
 |own r t ih=>
  intro n;unfold jd
  split <;> exact .none (ih _)
theorem DOk.dry(is:List Nat)(p:Pers H H')(sm:Same H₀ H'){σD:DSt}{σ:St}(h:DOk K H₀ H σD σ):DOk K H₀ H' (jd is 0 σD) σ:=by
 obtain⟨s,fp,sl,nd,hf⟩:=h;exact⟨sm,[],sl.dry is p 0,List.nodup_nil,λa ha=>by cases ha⟩
end
def zm2(f:D->(Option D->Prop)->Prop):List D->List D->(List D->Prop)->Prop
 |[],acc,Q=>Q acc
 |e::es,acc,Q=>f e λo=>match o with
  |some y=>acc.length<sizeLine/\zm2 f es (acc ++ [y]) Q
  |none=>zm2 f es acc Q
def zgz(g:DTG)(tt:DTT)(ti2:DTF)(is2:List Nat)(g2:DTG)(tt2:DTT)(te:DTE)(σ0:DSt):List D->List D->(List D->Prop)->Prop
 |[],acc,Q=>Q acc
 |d::ds,acc,Q=>g d σ0 λσ1=>tt σ1 λb=>if b=true then ti2 σ1 λes=>zm2 (lcF g2 tt2 te (jd is2 0 σ1)) es acc λacc'=>zgz g tt ti2 is2 g2 tt2 te σ0 ds acc' Q else zgz g tt ti2 is2 g2 tt2 te σ0 ds acc Q
def zur(k:Nat)(js:List Nat)(ti:DTF)(g:DTG)(tt:DTT)(ti2:DTF)(is2:List Nat)(g2:DTG)(tt2:DTT)(te:DTE):DTF:=λσ Q=>ti σ λds=>zgz g tt ti2 is2 g2 tt2 te (x5 k js σ) ds [] Q
section
variable {X:Cx}{elt tg iter t2 i2:Expr}{ifs ifs2:List Expr}{scope:Scope}{pos:Pos}{cl:List (Str×Addr)}{N' capt:List Str}{k:Nat}{js is is2:List Nat}{ti ti2:DTF}{g g2:DTG}{tt tt2:DTT}{te:DTE}
theorem zm3{σ:St}{σD:DSt}{H₀ H1:Hp}{J:It}{ds:List D}{QD:List D->Prop}{Dd:Addr}(ok:DOk X.K H₀ H1 σD σ)(it:ItOk X.K Same J H1 ds)(his:∀j∈is,j<k)(his2:∀j∈is2,j<k)(hn:H1 Dd=none)(q1:zgz g tt ti2 is2 g2 tt2 te (x5 k js σD) ds [] QD):
  zec J Dd (cnG X.K is g) (cnT X.K tt) (cnI X.K Pers ti2) (cnG X.K is2 g2) (cnT X.K tt2) (cnE X.K te) (yw k js σ) H1 (λv H'=>∃a vs xs,v=.ref a/\Same H1 H'/\H1 a=none/\H' a=some (.lst vs)/\Reps X.K H' xs vs/\QD xs):=by
 refine⟨λi m σ' H'=>m=ds.length-i/\i<=ds.length/\Same H1 H'/\σ'.length=(yw k js σ).length/\(∀j,k<=j->σ'[j]?=(yw k js σ)[j]?)/\∃acc vs,H' Dd=some (.lst vs)/\Reps X.K H' acc vs/\zgz g tt ti2 is2 g2 tt2 te (x5 k js σD) (ds.drop i) acc QD,
  ⟨ds.length,rfl,Nat.zero_le _,yk hn _,rfl,λ_ _=>rfl,[],[],z9,.nil,q1⟩,?_⟩
 intro i m σ' H' zz;refine gg λG zk=>?_;obtain⟨zem,hi,sm,hl,fr,acc,vs,eD,ra,q1⟩:=zz;refine zk ?_;clear zk;subst zem;have ok1:DOk X.K H1 H' (x5 k js σD) σ':=by
  refine DOk.keepN ((ok.block k js).after sm) hl λj=>?_
  by_cases hj:j<k
  ·left;unfold x5;rw[List.getElem?_append_left (by simpa using hj),List.getElem?_replicate,if_pos hj]
  ·right;exact fr j (by omega)
 by_cases hlt:i<ds.length
 ·have e:ds[i]?=some ds[i]:=by simp[hlt]
  obtain⟨go,yl⟩:=it.go H' i ds[i] sm e;refine .inr ⟨go,λx H2 y=>?_⟩;obtain⟨s2,r2⟩:=yl x H2 y;rw[List.drop_eq_getElem_cons hlt]at q1;refine⟨H1,x5 k js σD,ds[i],_,ok1.after s2,r2,q1,λσ2 σD2 l2 ok2 f2 q2=>?_⟩;have fr2:∀j,k<=j->σ2[j]?=(yw k js σ)[j]?:=λj hj=>by rw[f2 j (λz=>absurd (his j z) (by omega)),fr j hj]
  refine⟨H1,σD2,_,ok2,q2,λb H4 s4 q4=>?_⟩
  cases b with
  |false=>
   rw[if_neg Bool.false_ne_true]at q4 ⊢;exact⟨ds.length-(i+1),by omega,rfl,hlt,(sm.trans s2).trans s4,l2.trans hl,fr2,acc,vs,s4 _ _ (s2 _ _ eD),(ra.same s2).same s4,q4⟩
  |true=>
   rw[if_pos rfl]at q4 ⊢;refine⟨H1,σD2,_,ok2.after s4,q4,λJ2 H5 es s5 it5 q5=>?_⟩;have ok5:=(ok2.after s4).after s5;refine⟨λi2 n2 σ6 H6=>n2=es.length-i2/\i2<=es.length/\Pers H5 H6/\Same H1 H6/\σ6.length=σ2.length/\(∀j,j∉is2->σ6[j]?=σ2[j]?)/\∃acc vs,H6 Dd=some (.lst vs)/\Reps X.K H6 acc vs/\zm2 (lcF g2 tt2 te (jd is2 0 σD2)) (es.drop i2) acc (λacc'=>zgz g tt ti2 is2 g2 tt2 te (x5 k js σD) (ds.drop (i+1)) acc' QD),
    ⟨es.length,rfl,Nat.zero_le _,Pers.refl _,((sm.trans s2).trans s4).trans s5,rfl,λ_ _=>rfl,acc,vs,s5 _ _ (s4 _ _ (s2 _ _ eD)),((ra.same s2).same s4).same s5,q5⟩,?_⟩
   intro j2 n2 σ6 H6 zz;refine gg λG zk=>?_;obtain⟨zem,hj,p6,sm6,l6,f6,acc,vs,eD6,ra6,q6⟩:=zz;refine zk ?_;clear zk;subst zem;have okB:DOk X.K H1 H6 (jd is2 0 σD2) σ6:=by
    refine DOk.keepN (ok5.dry is2 p6 sm6) l6 λj=>?_
    by_cases hj:j∈is2
    ·by_cases hjl:j<σD2.length
     ·exact .inl (zll is2 σD2 0 j (by rw[Nat.zero_add];exact hj) hjl)
     ·right;have h1:=ok5.len;rw[List.getElem?_eq_none (by omega),List.getElem?_eq_none (by omega)]
    ·exact .inr (f6 j hj)
   by_cases hlt2:j2<es.length
   ·have e2:es[j2]?=some es[j2]:=by simp[hlt2]
    obtain⟨go2,yl2⟩:=it5.go H6 j2 es[j2] p6 e2;refine .inr ⟨go2,λx7 H7 y7=>?_⟩;obtain⟨s7,r7⟩:=yl2 x7 H7 y7;rw[List.drop_eq_getElem_cons hlt2]at q6;refine⟨H1,jd is2 0 σD2,es[j2],_,okB.after s7,r7,q6,λσ8 σD8 l8 ok8 f8 q8=>?_⟩;have fr8:∀j,j∉is2->σ8[j]?=σ2[j]?:=λj hj=>(f8 j hj).trans (f6 j hj);refine⟨H1,σD8,_,ok8,q8,λb H9 s9 q9=>?_⟩
    cases b with
    |false=>
     rw[if_neg Bool.false_ne_true]at q9 ⊢;exact⟨es.length-(j2+1),by omega,rfl,hlt2,p6.trans (s7.trans s9).pers,(sm6.trans s7).trans s9,l8.trans l6,fr8,acc,vs,s9 _ _ (s7 _ _ eD6),(ra6.same s7).same s9,q9⟩
    |true=>
     rw[if_pos rfl]at q9 ⊢;refine⟨H1,σD8,_,ok8.after s9,q9,λy H10 dy s10 r10 q10=>?_⟩;have eD10:=s10 _ _ (s9 _ _ (s7 _ _ eD6));have ra10:=((ra6.same s7).same s9).same s10;refine⟨vs,eD10,by rw[<-ra10.length];exact q10.1,es.length-(j2+1),by omega,rfl,hlt2,(p6.trans ((s7.trans s9).trans s10).pers).trans (w5 eD10 rfl),?_,l8.trans l6,fr8,acc ++ [dy],vs ++ [y],z9,?_,q10.2⟩
     ·exact Same.but (((sm6.trans s7).trans s9).trans s10) hn But.write
     ·exact(ra10.append (.cons r10 .nil)).mono (w5 eD10 rfl)
   ·have e2:j2=es.length:=by omega
    subst e2;rw[List.drop_length]at q6;exact .inl ⟨it5.stop H6 p6,ds.length-(i+1),by omega,rfl,hlt,sm6,(l6.trans l2).trans hl,λj hj=>(f6 j λz=>absurd (his2 j z) (by omega)).trans (fr2 j hj),acc,vs,eD6,ra6,q6⟩
 ·have e:i=ds.length:=by omega
  subst e;rw[List.drop_length]at q1;exact .inl ⟨it.stop H' sm,Dd,vs,acc,rfl,sm,hn,eD,ra,q1⟩
theorem zus(hc:X.calm=true)(L:ze6 X scope cl N' capt k js)
  (hi:DIw X tg iter ti) (hg:∀C fp s2 H2,DG (yy X N' scope cl C fp s2 H2) tg is g) (ht:∀C fp s2 H2,DTs (yy X N' scope cl C fp s2 H2) ifs tt)
  (hi2:∀C fp s2 H2,DI (yy X N' scope cl C fp s2 H2) t2 i2 ti2) (hg2:∀C fp s2 H2,DG (yy X N' scope cl C fp s2 H2) t2 is2 g2) (ht2:∀C fp s2 H2,DTs (yy X N' scope cl C fp s2 H2) ifs2 tt2)
  (he:∀C fp s2 H2,DE (yy X N' scope cl C fp s2 H2) elt te) (his:∀j∈is,j<k:=by decide) (his2:∀j∈is2,j<k:=by decide) (hs2:∀C x,foldedSetIterable i2 (compEnvC scope cl C X.env) x=pure x:=by intro _ _;rfl)
  (hs:∀x,foldedSetIterable iter X.env x=pure x:=by intro _;rfl):DF X (LC2 elt tg iter t2 i2 ifs ifs2 scope pos) (zur k js ti g tt ti2 is2 g2 tt2 te) :=
 DF.of (zup (g:=cnG X.K is g) (tt:=cnT X.K tt) (wi2:=cnI X.K Pers ti2) (g2:=cnG X.K is2 g2) (tt2:=cnT X.K tt2) (te:=cnE X.K te) hc L hi.pi (λC fp s2 H2=>(hg C fp s2 H2).pg) (λC fp s2 H2=>(ht C fp s2 H2).pts) (λC fp s2 H2=>(hi2 C fp s2 H2).pi) (λC fp s2 H2=>(hg2 C fp s2 H2).pg) (λC fp s2 H2=>(ht2 C fp s2 H2).pts) (λC fp s2 H2=>(he C fp s2 H2).pe) hs2 hs) λσ H H₀ σD QD ok0 q=>⟨H₀,σD,_,ok0,q,λJ H1 ds s1 it q1 Dd hn=>by
  obtain⟨W,w0,turn⟩:=zm3 (ok0.after s1) it his his2 hn q1;refine⟨W,w0,λi m σ' H' w=>?_⟩;rcases turn i m σ' H' w with⟨st,a,vs,xs,e,sm,n,e2,r,qd⟩|h
  ·exact .inl ⟨st,a,vs,xs,e,s1.trans sm,s1.free n,e2,r,qd⟩
  ·exact .inr h⟩
end
def zph:Ret->Mx
 |.val d=>.v d
 |.new xs=>.l xs
theorem RepRs.mx{K:PySem.W.Frag}{H H':Hp}{rs:List Ret}{vs:List V}(h:RepRs K H H' rs vs):∃bs,MxR K H' (rs.map zph) vs bs/\bs.Nodup/\∀b∈bs,H b=none:=by
 induction h with
 |nil s=>exact⟨[],trivial,List.nodup_nil,λb hb=>by cases hb⟩
 |val s r t ih=>
  obtain⟨bs,m,nd,fr⟩:=ih;exact⟨bs,⟨r.same t.same,m⟩,nd,λb hb=>s.free (fr b hb)⟩
 |@new H H1 H' xs a ws rs vs s n e r t ih=>
  obtain⟨bs,m,nd,fr⟩:=ih;refine⟨a::bs,⟨rfl,⟨ws,t.same _ _ e,r.same t.same⟩,m⟩,List.nodup_cons.mpr ⟨λz=>?_,nd⟩,λb hb=>?_⟩
  ·rw[fr a z]at e;cases e
  ·rcases List.mem_cons.mp hb with rfl|hb
   ·exact n
   ·exact s.free (fr b hb)
def zj4(i:Nat)(t:DTM):DTS:=λDn σ=>t σ λrs=>rs.length<=sizeLine/\Dn.nx (σ.set i (some (.own (.mix (rs.map zph)))))
section
variable {X:Cx}{e:Expr}{es:List Expr}{pos:Pos}{i j:Nat}{sp:zci}{t:zay}
theorem zpi{tm:DTM}{i:Nat}{x:Str}{pos' p2:Pos}(hN:X.N.Nodup)(hi:X.N[i]?=some x)(hx:Loc X.env.scope x)(h:DM X es tm)
  (hs:swapsWith (.List es p2) (some (.Name x pos')) pos.line X.env=pure false:=by rfl) (hf:X.fn x=true\/X.env.scope.names.lookup x=some .local:=by first|exact .inl rfl|exact .inr rfl) :
  DS X (.Assign [.Name x pos'] (.List es p2) pos) (zj4 i tm) :=
 DS.of (zdt hN hi hx (zi2 h.pa) hs hf) λσ H H₀ σD Dn ok q=>⟨H₀,σD,_,ok,q,λvs H1 rs r1 q1=>by
  refine⟨by rw[<-r1.length];exact q1.1,λp hp=>?_⟩;obtain⟨bs,m,nd,fr⟩:=r1.mx;have sn:=yk hp (.lst vs);have sm:Same H (upd H1 p (.lst vs)):=r1.same.trans sn;refine⟨_,DOk.setF ok sm (o:=.mix (rs.map zph)) (v:=.ref p) (f:=p::bs) ?_ ?_ ?_ i,sm.pers,q1.2⟩
  ·intro b hb;rcases List.mem_cons.mp hb with rfl|hb
   ·exact r1.same.free hp
   ·exact fr b hb
  ·refine List.nodup_cons.mpr ⟨λz=>?_,nd⟩;obtain⟨vs0,e0⟩:=m.live p z;rw[hp]at e0
   cases e0
  ·exact⟨p,vs,bs,rfl,rfl,z9,m.keep sn.pers λc hc u hu=>sn _ _ hu⟩⟩
def zlm(j i:Nat)(sp:zci)(t:zay):DTS:=λDn σ=>match σ[j]? with
 |some (some (.own (.lst _)))=>zea i sp t (λd σ'=>match σ'[j]? with
  |some (some (.own (.lst xs)))=>xs.length<sizeLine/\Dn.nx (clr (σ'.set j (some (.own (.lst (xs ++ [d]))))))
  |_=>False) σ
 |_=>False
theorem zrf(j:Nat){x:Str}{p1 apos cpos:Pos}(P:PE X e (zcj X.K i sp t))(hN:X.N[j]?=some x:=by rfl)(hv:Vis X.env.scope x:=by first|exact Or.inl rfl|exact Or.inr (Or.inl rfl)|exact Or.inr (Or.inr rfl))(hd:(x ==("__debug__" : Str))=false:=by decide)
  (hcd:(x ==("__classdict__" : Str))=false:=by decide)
  (hbase:attributeBase (.Name x p1) "append" X.env (eval (.Name x p1) X.env)=eval (.Name x p1) X.env:=by rfl)
  (hfew:((backTo cpos (starEach (e :: []) X.env)).all (λx=>!x.1) && (backToKw cpos (keywordEach [] X.env)).all (λx=>x.1.isSome)
   && decide ((e :: []).length+([]:List Keyword).length+(if ([]:List Keyword).isEmpty then 0 else 1)<30))=true:=by rfl)
  (hline:(apos.endLine == cpos.line)=true:=by rfl) (hst:starEach (e :: []) X.env=(false,eval e X.env)::starEach [] X.env:=by rfl) (hplain:(backTo cpos (starEach [] X.env)).any (·.1)=false:=by rfl)
  (hs:swapsWith (.Call (.Attribute (.Name x p1) "append" apos) [e] [] cpos) none pos.line X.env=pure false:=by rfl):DS X (.Expr (.Call (.Attribute (.Name x p1) "append" apos) [e] [] cpos) pos) (zlm j i sp t) :=
 DS.of (zf9 (zkq PySem.F.plainAttrs_list PySem.F.slot_list_append PySem.F.type_list_append je (wm (i:=j) hN hv hd hcd) (xv P vz hst) hbase hfew hline hst hplain) hs) λσ H H₀ σD Dn ok q=>by
  unfold zlm at q
  split at q
  ·next xs eo=>
   obtain⟨a,vs,e1,e2,r,n⟩:=ok.ownL eo;refine⟨.ref a,e1,.inl ⟨rfl,vs,SqL.of e2⟩,zj1 ok q λv H' d σD' ok' pr rp qd=>?_⟩
   split at qd
   ·next ys ey=>
    obtain⟨a',ws,e1',e2',r',n'⟩:=ok'.ownL ey;rw[e1]at e1'
    cases e1';exact⟨a,ws,v,rfl,rfl,e2',by rw[<-r'.length];exact qd.1,_,ok'.write ey e1 e2' (r'.append (.cons rp .nil)),pr.trans (w5 e2' rfl),qd.2⟩
   ·exact qd.elim
  ·exact q.elim
end
def zrg:Option W->Option W
 |some (.val d)=>some (.val d)
 |_=>none
def startV(k:Nat)(js:List Nat)(σ:DSt):DSt:=List.replicate k none++js.map λj=>zrg (σ[j]?).join
def lcG(g:DTG)(tt:DTT)(p:Nat)(sp:zci)(t:zay)(σ0:DSt):List D->List D->O->(List D->O->Prop)->Prop
 |[],acc,o,Q=>Q acc o
 |d::ds,acc,o,Q=>g d (σ0.set p (some (.own o))) λσ2=>tt σ2 λb=>
  if b=true then σ2[p]?=some (some (.own o))/\t σ2 λwp wq=>wp.all W.plain=true/\wq.all W.plain=true/\sp wp o.bare wq λy o'=>lcG g tt p sp t σ0 ds (acc ++ [y]) (o.with o') Q
  else lcG g tt p sp t σ0 ds acc o Q
theorem zpj{g:DTG}{tt:DTT}{p:Nat}{sp:zci}{t:zay}{σ0:DSt}{Q:List D->O->Prop}(Iv:List D->List D->O->Prop)
  (hs:∀d ds acc o (N:List D->O->Prop),Iv (d::ds) acc o->(∀acc' o',Iv ds acc' o'->N acc' o')->g d (σ0.set p (some (.own o))) λσ2=>tt σ2 λb=>
   if b=true then σ2[p]?=some (some (.own o))/\t σ2 λwp wq=>wp.all W.plain=true/\wq.all W.plain=true/\sp wp o.bare wq λy o'=>N (acc ++ [y]) (o.with o') else N acc o)
  (hd:∀acc o,Iv [] acc o->Q acc o):∀{ds acc:List D}{o:O},Iv ds acc o->lcG g tt p sp t σ0 ds acc o Q
 |[],acc,o,h=>hd acc o h
 |d::ds,acc,o,h=>hs d ds acc o (λacc' o'=>lcG g tt p sp t σ0 ds acc' o' Q) h λacc' o' h'=>zpj Iv hs hd h'
section
variable {K:PySem.W.Frag}{H₀ H Hb H':Hp}{σD:DSt}{σ:St}
theorem DOk.startV(h:DOk K H₀ H σD σ)(p:Pers H H')(k:Nat)(js:List Nat):Slots K Hb H' (L2.startV k js σD) (yw k js σ) []:=by
 have two:∀js:List Nat,Slots K Hb H' (js.map λj=>zrg (σD[j]?).join) (js.map λj=>(σ[j]?).join) []:=λjs=>by
  induction js with
  |nil=>exact .nil
  |cons j js ih=>
   rw[List.map_cons,List.map_cons]
   cases e:σD[j]? with
   |none=>exact .none ih
   |some w=>
    cases w with
    |none=>exact .none ih
    |some w=>
     cases w with
     |val d=>
      obtain⟨v,e1,r⟩:=h.val e;rw[e1];exact .val (r.mono p) ih
     |_=>exact .none ih
 unfold L2.startV yw
 induction k with
 |zero=>exact two js
 |succ k ih=>exact .none ih
theorem zut{p:Nat}{o:O}(h:p<σD.length):(clr (σD.set p (some (.own o))))[p]?=some (some (.own o)):=by
 unfold clr;rw[List.getElem?_map,List.getElem?_set_self h];rfl
theorem zed{k p i:Nat}{js:List Nat}(hp:js[p]?=some i):(yw k js σ)[k+p]?=some (σ[i]?).join:=by
 unfold yw;rw[List.getElem?_append_right (by simp),List.length_replicate,Nat.add_sub_cancel_left,List.getElem?_map,hp];rfl
theorem DOk.blockG(h:DOk K H₀ H σD σ){k p i:Nat}{js:List Nat}{v:V}{o:O}{f:List Addr}{σ':St}(pr:Pers H H')(hp:js[p]?=some i)(ev:σ[i]?=some (some v))(hl:σ'.length=(yw k js σ).length)(fr:∀j,k<=j->σ'[j]?=(yw k js σ)[j]?)
  (r:RepO K H' o v f) (nf:f.Nodup):DOk K (zby f H') H' ((L2.startV k js σD).set (k+p) (some (.own o))) σ':=by
 have s1:Slots K (zby f H') H' (L2.startV k js σD) σ' []:=(h.startV pr k js).keepN hl λj=>by
  by_cases hj:j<k
  ·left;unfold L2.startV;rw[List.getElem?_append_left (by simpa using hj),List.getElem?_replicate,if_pos hj]
  ·right;exact fr j (by omega)
 have hlt:p<js.length:=(List.getElem?_eq_some_iff.mp hp).1;obtain⟨g,g',s2,sb⟩:=s1.set (f:=f) (w:=some (.own o)) (v:=some v) (λt=>.own r t) (k+p) (by unfold L2.startV;rw[List.length_append,List.length_replicate,List.length_map];omega);have e0:=List.sublist_nil.mp sb;obtain⟨rfl,rfl⟩:=List.append_eq_nil_iff.mp e0;rw[List.nil_append,List.append_nil]at s2;have e1:σ'[k+p]?=some (some v):=by rw[fr _ (by omega),zed hp,ev];rfl
 have e2:σ'.set (k+p) (some v)=σ':=by
  obtain⟨h1,h2⟩:=List.getElem?_eq_some_iff.mp e1;rw[<-h2];exact List.set_getElem_self h1
 rw[e2]at s2;exact⟨zch,f,s2,nf,λa ha=>zau ha⟩
end
section
variable {X:Cx}{elt tg iter:Expr}{ifs:List Expr}{scope:Scope}{pos:Pos}{cl:List (Str×Addr)}{N' capt:List Str}{k:Nat}{js is:List Nat}{ti:DTF}{g:DTG}{tt:DTT}{sp:zci}{t:zay}
theorem zm4{p i:Nat}{σ:St}{σD:DSt}{H₀ H1:Hp}{J:It}{ds:List D}{QD:List D->O->Prop}{Dd:Addr}{o0:O}(ok:DOk X.K H₀ H1 σD σ)(eo:σD[i]?=some (some (.own o0)))(it:ItOk X.K Pers J H1 ds)(hz:ds.length<=sizeLine)(his:∀j∈is,j<k)(hp:js[p]?=some i)(hn:H1 Dd=none)
  (q:lcG g tt (k+p) sp t (startV k js σD) ds [] o0 QD) :
  zdf J Dd (cnG X.K is g) (cnT X.K tt) (zcj X.K (k+p) sp t) (yw k js σ) H1 (λv H'=>∃vs xs o',v=.ref Dd/\H' Dd=some (.lst vs)/\Reps X.K H' xs vs/\QD xs o'/\DOk X.K H₀ (zby [Dd] H') (clr (σD.set i (some (.own o')))) σ/\Pers H1 H'):=by
 obtain⟨v,f,ev,rO,nf,fr0,put⟩:=ok.focus eo;have sn:=yk hn (.lst []);have nD0:Dd∉f:=λz=>by
  obtain⟨w,e1,_⟩:=rO.live Dd z;rw[hn]at e1
  cases e1
 refine⟨λi m σ' H'=>m=ds.length-i/\i<=ds.length/\σ'.length=(yw k js σ).length/\(∀j,k<=j->σ'[j]?=(yw k js σ)[j]?)/\Pers H1 H'/\(∀a u,a∉f->H1 a=some u->H' a=some u) /\
   ∃acc vs o' f',H' Dd=some (.lst vs)/\Reps X.K H' acc vs/\acc.length<=i/\RepO X.K H' o' v f'/\f'.Nodup/\(∀a∈f',a∈f\/H1 a=none)/\Dd∉f'/\lcG g tt (k+p) sp t (startV k js σD) (ds.drop i) acc o' QD,
  ⟨ds.length,rfl,Nat.zero_le _,rfl,λ_ _=>rfl,sn.pers,λa u _ h=>sn a u h,[],[],o0,f,z9,.nil,Nat.le_refl _,rO.keep sn.pers λa _ u h=>sn a u h,nf,λa ha=>.inl ha,nD0,q⟩,?_⟩
 intro i' m σ' H' zz;refine gg λG zk=>?_;obtain⟨zem,hi,hl,fr,pr,kp,acc,vs,o',f',eD,ra,la,rf,nf',ff,nDf,q1⟩:=zz;refine zk ?_;clear zk;subst zem
 by_cases hlt:i' < ds.length
 ·have e:ds[i']?=some ds[i']:=by simp[hlt]
  obtain⟨go,yl⟩:=it.go H' i' ds[i'] pr e;refine .inr ⟨go,λx H2 y=>?_⟩;obtain⟨s2,r2⟩:=yl x H2 y;rw[List.drop_eq_getElem_cons hlt]at q1;have ok1:=ok.blockG (H':=H2) (pr.trans s2.pers) hp ev hl fr (rf.keep s2.pers λa _ u h=>s2 a u h) nf';refine⟨zby f' H2,_,ds[i'],_,ok1,r2,q1,λσ2 σD2 l2 ok2 f2 q2=>?_⟩;have fr2:∀j,k<=j->σ2[j]?=(yw k js σ)[j]?:=λj hj=>by rw[f2 j (λz=>absurd (his j z) (by omega)),fr j hj]
  refine⟨zby f' H2,σD2,_,ok2,q2,λb H4 s4 q4=>?_⟩;have s24:=s2.trans s4
  cases b with
  |true=>
   show ite _ _ _;rw[if_pos rfl]at q4 ⊢;obtain⟨q4,q5⟩:=q4;refine⟨zby f' H2,σD2,o',_,ok2.after s4,q4,q5,λy H5 dy o5 ok5 p5 r5 q5=>?_⟩;obtain⟨v5,f5,ev5,rO5,nf5,fr5,_⟩:=ok5.focus (zut (List.getElem?_eq_some_iff.mp q4).1);rw[fr2 _ (by omega),zed hp,ev]at ev5
   cases ev5;have sm5:∀a u,a∉f'->H2 a=some u->H5 a=some u:=λa u ha hu=>ok5.same a u (by rw[qk ha];exact hu);have eD5:H5 Dd=some (.lst vs):=sm5 _ _ nDf (s2 _ _ eD);have pr5:Pers H' H5:=s24.pers.trans p5;have ra5:=ra.mono pr5;have nD5:Dd∉f5:=λz=>by
    have:=fr5 Dd z;rw[qk nDf,s2 _ _ eD]at this
    cases this
   have pu:Pers H5 (upd H5 Dd (.lst (vs ++ [y]))):=w5 eD5 rfl;refine⟨vs,eD5,by rw[<-ra5.length];omega,ds.length-(i'+1),by omega,rfl,hlt,l2.trans hl,fr2,(pr.trans pr5).trans pu,λa u ha hu=>?_,acc ++ [dy],vs ++ [y],o'.with o5,f5,z9,(ra5.append (.cons r5 .nil)).mono pu,by rw[List.length_append,List.length_singleton];omega,
    rO5.keep pu λa ha u hu=>by rw[ya (λz=>nD5 (by rw[<-z];exact ha))];exact hu,nf5,λa ha=>?_,nD5,q5⟩
   ·rw[ya (λz=>by rw[z,hn]at hu;cases hu)];refine sm5 a u (λz=>?_) (s2 _ _ (kp a u ha hu));rcases ff a z with w|w
    ·exact ha w
    ·rw[hu]at w;cases w
   ·by_cases z:a∈f'
    ·exact ff a z
    ·have h2:=fr5 a ha;rw[qk z]at h2;have h3:=s2.free h2
     by_cases y:a∈f
     ·exact .inl y
     ·right
      cases h4:H1 a with
      |none=>rfl
      |some u=>rw[kp a u y h4]at h3;cases h3
  |false=>
   show ite _ _ _;rw[if_neg Bool.false_ne_true]at q4 ⊢;exact⟨ds.length-(i'+1),by omega,rfl,hlt,l2.trans hl,fr2,pr.trans s24.pers,λa u ha hu=>s24 _ _ (kp a u ha hu),acc,vs,o',f',s24 _ _ eD,ra.same s24,by omega,rf.keep s24.pers λa _ u h=>s24 a u h,nf',ff,nDf,q4⟩
 ·have e:i'=ds.length:=by omega
  subst e;rw[List.drop_length]at q1;have ph:Pers H' (zby [Dd] H'):=λa u ha hp=>by
   rw[qk]
   ·exact ha
   ·intro z;rw[List.mem_singleton.mp z,eD]at ha
    cases ha
    cases hp
  have off:∀a,a≠Dd->zby [Dd] H' a=H' a:=λa ha=>qk λz=>ha (List.mem_singleton.mp z);refine .inl ⟨it.stop H' pr,vs,acc,o',rfl,eD,ra,q1,(put (zby [Dd] H') o' f' (λa u ha hu=>?_) nf' ff (rf.keep ph λa ha u hu=>?_)).1,pr⟩
  ·rw[off a λz=>by rw[z,hn]at hu;cases hu];exact kp a u ha hu
  ·rw[off a λz=>nDf (by rw[<-z];exact ha)];exact hu
def zdo(j i k:Nat)(js:List Nat)(p:Nat)(ti:DTF)(g:DTG)(tt:DTT)(sp:zci)(t:zay):DTS:=λDn σ=>match σ[i]? with
 |some (some (.own o))=>ti σ λds=>ds.length<=sizeLine/\lcG g tt (k+p) sp t (startV k js σ) ds [] o λys o'=>Dn.nx ((clr (σ.set i (some (.own o')))).set j (some (.own (.lst ys))))
 |_=>False
theorem zm5(i p:Nat){j:Nat}{x:Str}{pos' spos:Pos}(hN:X.N.Nodup)(hi':X.N[j]?=some x)(hx:Loc X.env.scope x)(hc:X.calm=true)(L:ze6 X scope cl N' capt k js)
  (hi:DI X tg iter ti) (hg:∀C fp s2 H2,DG (yy X N' scope cl C fp s2 H2) tg is g) (ht:∀C fp s2 H2,DTs (yy X N' scope cl C fp s2 H2) ifs tt) (he:∀C fp s2 H2,PE (yy X N' scope cl C fp s2 H2) elt (zcj X.K (k+p) sp t))
  (hp:js[p]?=some i:=by rfl) (his:∀j∈is,j<k:=by decide) (hsw:swapsWith (.ListComp elt [⟨tg,iter,ifs,0⟩] scope pos) (some (.Name x pos')) spos.line X.env=pure true:=by rfl) (hs:∀x,foldedSetIterable iter X.env x=pure x:=by intro _;rfl) (hf:X.fn x=true\/X.env.scope.names.lookup x=some .local:=by first|exact .inl rfl|exact .inr rfl|assumption) :
  DS X (.Assign [.Name x pos'] (.ListComp elt [⟨tg,iter,ifs,0⟩] scope pos) spos) (zdo j i k js p ti g tt sp t) :=
 DS.of (zhk (wi:=cnI X.K Pers ti) (g:=cnG X.K is g) (tt:=cnT X.K tt) (te:=zcj X.K (k+p) sp t) hN hi' hx hc L hi.pi (λC fp s2 H2=>(hg C fp s2 H2).pg) (λC fp s2 H2=>(ht C fp s2 H2).pts) he hsw hs hf) λσ H H₀ σD Dn ok q=>by
  unfold zdo at q
  split at q
  ·next o eo=>
   refine⟨H₀,σD,_,ok,q,λJ H1 ds s1 it q1 Dd hn=>?_⟩;obtain⟨W,w0,turn⟩:=zm4 (ok.after s1) eo it q1.1 his hp hn q1.2;refine⟨W,w0,λi m σ' H' w=>?_⟩;rcases turn i m σ' H' w with⟨st,vs,xs,o',_,eD,r,qd,okh,pr⟩|h
   ·exact .inl ⟨st,_,DOk.setO okh zch (zau (List.mem_singleton.mpr rfl)) eD r j,s1.pers.trans pr,qd⟩
   ·exact .inr h
  ·exact q.elim
end
section
variable {X:Cx}
theorem zj5:MtR X "list.count" (λx vs H Q=>∃(l:Addr) (ns:List Str) (k:Str),x=.ref l/\vs = [.str k]/\SqL X.K H l (ns.map V.str)/\Q (.int ((ns.count k:Nat):Int)) H):=by
 intro pins s σ H x vs v us Q I rx rv h;obtain⟨l,ns,k,rfl,rfl,hR,q⟩:=h
 cases rx;obtain⟨u,rfl,ru⟩:=rv.one;obtain⟨t,rfl⟩:=ru;obtain⟨its,r,⟨⟨cls,dd,data,sl⟩,n,e,hc,hd,hdt⟩,z⟩:=I.list hR;simp only at hc hd hdt;subst hc hd hdt;refine call_meets F.slot_list_count ⟨_,e,rfl⟩ F.entry_list_count (F.args_list_count_2 _ _) (PySem.SeqAt.list_countAt l its.toArray n _ sl (.str k t) (zwi k)) ⟨e,λy hy=>?_,?_⟩
 ·obtain⟨i,t',rfl⟩:=zre r y (by simpa using hy);exact PySem.SeqAt.EqAt.str_str i t' k t
 ·rw[List.toList_toArray,zh8 r k];exact⟨.int ((ns.count k:Nat):Int),H,I.tok _,⟨_,rfl⟩,q⟩
variable {o e:Expr}{to te:DTE}{apos cpos:Pos}
def zpk(to te:DTE):DTE:=λσ Q=>to σ λd=>match d with
 |.list xs=>te σ λk=>match k with
  |.str i=>∃(ns:List Str),xs=ns.map PyData.str/\Q (.int ((ns.count i:Nat):Int))
  |_=>False
 |_=>False
theorem zee(ho:DV X o to)(ha:DE X e te)(hbase:attributeBase o "count" X.env (eval o X.env)=eval o X.env:=by rfl)
  (hfew:((backTo cpos (starEach [e] X.env)).all (λx=>!x.1) && (backToKw cpos (keywordEach [] X.env)).all (λx=>x.1.isSome) && decide (([e]:List Expr).length+([]:List Keyword).length+(if ([]:List Keyword).isEmpty then 0 else 1)<30))=true:=by rfl)
  (hline:(apos.endLine == cpos.line)=true:=by rfl) (hs:starEach [e] X.env=(false,eval e X.env)::starEach [] X.env:=by rfl) (hplain:(backTo cpos (starEach [] X.env)).any (·.1)=false:=by rfl) :
  DE X (.Call (.Attribute o "count" apos) [e] [] cpos) (zpk to te) :=
 DE.of (zkq F.plainAttrs_list F.slot_list_count F.type_list_count zj5 ho.pe (xv ha.pe vz hs) hbase hfew hline hs hplain) λσ H H₀ σD QD ok q=>⟨H₀,σD,_,ok,q,λv H1 d s1 r1 q1=>by
  cases d with
  |list xs=>
   obtain⟨a,vs,rfl,hR,rp⟩:=r1.list;refine⟨.inl ⟨rfl,vs,.inl hR⟩,H₀,σD,_,ok.after s1,q1,λv2 H2 d2 s2 r2 q2=>?_⟩
   cases d2 with
   |str i=>
    obtain⟨ns,rfl,q3⟩:=q2
    cases r2;have e:=zf2 rp;subst e;refine⟨a,ns,i,rfl,rfl,?_,.int _,s1.trans s2,.int,q3⟩;rcases hR with h |⟨o,h⟩
    ·exact .inl (.inl (s2 _ _ h))
    ·exact .inl (.inr ⟨o,s2 _ _ h⟩)
   |_=>exact q2.elim
  |_=>exact q1.elim⟩
end
end L2
namespace SQ
open PySem PyProof.Rows
set_option autoImplicit false
open Classical in
section
variable {prog:Program}{w:World}{A:Around}{E:Value->Shared->Prop}{s:Shared}
theorem items_int{vs:List Value}{ns:List Int}(h:IntsAre vs ns):ItemsAre (intKind prog w) ns vs:=by
 induction h with
 |nil=>exact .nil
 |cons n t h ih=>exact .cons (by simp[intKind,Value.isInt]) ih
end
end SQ
namespace L2
open PySem PySem.Spec PyProof.Rows
section
variable {X:Cx}{pins:List (Addr×Obj)}{σ:St}{H:Hp}{s:Shared}{P c:Addr}{q:Str}
theorem zm6{clos:List (Str×Addr)}{params:Arguments}{body:Expr}{scope:Scope}{pos:Pos}{fl:Nat}{E:Value->Shared->Prop}{Q:Value->Shared->Prop}(I:Inv X pins σ H s)(hT:za0 q P H)(C:PySem.W.CodeHd X.base c P)(hcode:X.env.code=.ref c)(hB:zaa X.mg X.base)
  (hcl:closureFor scope X.env=pure clos)
  (h:∀(f c':Addr) (oc:Obj) (u:HO) (ctv:Value) (H':Hp) (s':Shared),Inv X pins σ H' s'->Same H H'->H' c'=some (.frz oc u)->zkh oc q->s.heap.objs.size<=f->s'.heap.objs.size<=f+1->H' f=none ->
   s'.heap.get? f=some (PySem.W.kla_obj "<lambda>" q params body scope clos ((X.mg "__name__").getD .none) c' ctv)->Q (.ref f) s') :
  wpAny (model X.prog X.w) X.A (makeFunction "<lambda>" q params (.expr body) scope X.env [] [] [] pos fl) Q E s:=by
 obtain⟨ps,gP,tr,ent⟩:=I.tabOk hT;have hPn:H P≠none:=by obtain⟨t,m,e⟩:=hT;rw[e];simp
 cases hc:codeAmong pos ps.toList with
 |none=>
  refine PySem.W.kla_makeFunction (mg:=X.mg) hcl I.ok.glob (I.mod.glob.keeps I.bk) hcode (C.keeps I.bk) gP tr hc (I.globNe hPn) (I.bltAt hB hPn) λc' ctv h' tk hx hge hlt hrec htb=>?_;obtain⟨c2,oc,vs,tq,e2,hoc,hd,hv⟩:=hrec
  cases e2;have fr:H c'=none:=I.hok.fresh hge;have pu:∀b o,h'.get? b=some o->(h'.push (PySem.W.kla_obj "<lambda>" q params body scope clos ((X.mg "__name__").getD .none) c' ctv)).get? b=some o:=λb o e=>Heap.get?_push_of_some _ e;have nP:∀b,H b=none->b≠P:=λb n z=>hPn (z ▸ n);have neC:∀b o,s.heap.get? b=some o->b≠c':=λb o e=>Nat.ne_of_lt (Nat.lt_of_lt_of_le (Heap.lt_size e) hge);have sH:Same H (upd H c' (.frz oc (.own 0))):=λb o e=>by rw[ya (yz e fr)];exact e
  have un:Un X.fs [] H (upd H c' (.frz oc (.own 0))) s.heap (h'.push (PySem.W.kla_obj "<lambda>" q params body scope clos ((X.mg "__name__").getD .none) c' ctv)):=by
   refine⟨λb o e n _ _=>pu _ _ (hx b o (nP b n) e),λb o e n _ _=>⟨o.slots,pu _ _ (hx b o (nP b n) e)⟩,λb o e n _=>by rw[ya (neC b o e)];exact n,λb o e _=>?_,λb xs e=>sH b _ e,λb o u e=>sH b _ e,λb ls e=>⟨#[],by rw[sH b _ e];simp⟩⟩
   by_cases z:b=P
   ·rw[z];exact⟨_,pu _ _ htb⟩
   ·exact⟨o,pu _ _ (hx b o z e)⟩
  have hk:HOk X.prog X.w (upd H c' (.frz oc (.own 0))) (h'.push (PySem.W.kla_obj "<lambda>" q params body scope clos ((X.mg "__name__").getD .none) c' ctv)):=λb u e=>by
   by_cases z:b=c'
   ·subst z;rw[z9]at e
    cases e;exact⟨pu _ _ hoc,_,pu _ _ hoc⟩
   ·rw[ya z]at e
    by_cases zP:b=P
    ·subst zP;obtain⟨t,m,e'⟩:=hT;rw[e']at e
     cases e;obtain⟨ps',q',t',lab,r1,_,_⟩:=(show zha H s.heap b _ from I.hok b _ e')
     have q1:=zlj lab
     cases q1;refine⟨_,q,_,lab,pu _ _ htb,by rw[Array.toList_append];exact TriplesOk_snoc _ _ _ _ tr,λpos' cv y=>?_⟩;rw[Array.toList_append]at y;rcases zj2 _ tr y with y|rfl
     ·obtain⟨c3,o3,u3,r1,r2,r3⟩:=ent _ _ y;exact⟨c3,o3,u3,r1,sH _ _ r2,r3⟩
     ·exact⟨c',oc,_,rfl,z9,vs,tq,hd,hv⟩
    ·refine(I.hok b u e).stay (λd v hd' g=>pu _ _ (hx d v ?_ g)) (λd g=>sH _ _ g) (λd xs g=>sH _ _ g) λd o u g=>sH _ _ g;rcases hd' with rfl|hd'
     ·exact zP
     ·rintro rfl;obtain⟨t,m,e'⟩:=hT;rw[e']at hd'
      cases hd'
  refine h _ c' oc (.own 0) ctv _ _ (I.un (t':=tk) un hk) sH z9 ⟨vs,tq,hd,hv⟩ (Nat.le_trans hge (Nat.le_of_lt hlt)) (Nat.le_of_eq (Heap.size_push ..)) ?_ (Heap.get?_push_size _ rfl);rw[ya (Nat.ne_of_gt hlt)];exact I.hok.fresh (Nat.le_trans hge (Nat.le_of_lt hlt))
 |some cv=>
  obtain⟨c',oc,u,rfl,e,co⟩:=ent _ _ hc;refine PySem.W.kla_makeFunctionHit (mg:=X.mg) hcl I.ok.glob (I.mod.glob.keeps I.bk) hcode (C.keeps I.bk) gP tr hc (I.bltAt hB hPn) λctv h' tk hk hsz=>?_;exact h _ c' oc u ctv H _ (I.kept (t':=tk) λb o g=>Heap.get?_push_of_some _ (hk b o g)) (Same.refl _) e co hsz (Nat.le_of_eq (Heap.size_push ..)) (I.hok.fresh hsz) (Heap.get?_push_size _ rfl)
end
section
variable {X:Cx}{pins:List (Addr×Obj)}{σ:St}{H:Hp}{a it S f:Addr}{xs:List V}{kf:Nat->Int}{kwd:List (Str×Value)}{R:Value->Shared->Prop}
structure zxi(X:Cx)(pins:List (Addr×Obj))(σ:St)(H:Hp)(a it S:Addr)(xs:List V)(kf:Nat->Int)(j i:Nat)(H1:Hp)(s:Shared):Prop where
 I:Inv X pins σ H1 s
 sm:Same H H1
 st:s.heap.IsListIter it a j
 f1:FpOk X pins H1 it
 f2:FpOk X pins H1 S
 ne:it≠S
 best:∃vb tb c x,s.heap.get? S=some (seqObj "list" #[vb,.int (kf i) tb] c)/\xs[i]?=some x/\RelV x vb
 lt:i<j
 mx:∀j',j' < j->kf i<=kf j'/\(j' < i->kf i<kf j')
theorem zrh(hc:X.calm=true)(hq:SqL X.K H a xs)(hk:∀i x,xs[i]?=some x->zj3 X pins σ f x H (kf i))
  (hR:∀i x vb s' H',Inv X pins σ H' s'->Same H H'->xs[i]?=some x->RelV x vb->(∀j',j' < xs.length->kf i<=kf j'/\(j' < i->kf i<kf j'))->R vb s') :
  ∀(r j i:Nat) (H1:Hp) (s:Shared),xs.length-j=r->j<=xs.length->zxi X pins σ H a it S xs kf j i H1 s ->
   codeAny (model X.prog X.w) X.A (.builtin "min.loop" ⟨[.ref it,.ref f,.ref S],kwd⟩) (λr s'=>match r with|.ok (.ret v)=>R v s'|.ok _=>False|.error e=>X.xe e s') s:=by
 have nm:(toString "min" ++ toString ".loop" : String) = "min.loop" := by decide
 intro r
 induction r with
 |zero=>
  intro j i H1 s e1 e2 h;have ej:j=xs.length:=by omega
  subst ej;obtain⟨I,sm,st,f1,f2,ne,⟨vb,tb,c,x,gS,hx,rx⟩,lt,mx⟩:=h;obtain⟨its,rv,p,hz⟩:=I.list (sm.seq hq);refine codeAny_builtin PySem.F.entry_min_loop ?_;rw[Around.under_plainId PySem.F.plain_min_loop _];show wpAny _ X.A.in1 (seqItems? (.ref S) >>= _) _ _ s;refine wpAny_bind (wpAny_seqItems gS rfl ?_);show wpAny _ X.A.in1 (tryCatch (pyNext (.ref it)) _ >>= _) _ _ s;have hl:=rv.length;refine wpAny_bind (wpAny_tryCatch (wpAny_pyNext_list_end (I.ok.hd hc) st p.isList (by simp;omega) λh' eb=>?_));have I1:Inv X pins σ H1 { s with heap:=h',toks:=s.toks }:=f1.inv I λb o hb e=>eb b o hb e;have gS':=eb S _ ne.symm gS;show wpAny _ X.A.in1 (updateSeq S (λ_=>#[]) >>= _) _ _ _;refine wpAny_bind (wpAny_updateSeq gS' rfl (wpAny_bind (wpAny_letGo (wpAny_pure ?_))));exact hR i x vb _ H1 (f2.inv (t':=s.toks) I1 λb o n e=>(Heap.get?_update_other _ _ (Ne.symm n)).trans e) sm hx rx mx
 |succ r ih=>
  intro j i H1 s e1 e2 h;have lj:j<xs.length:=by omega
  obtain⟨I,sm,st,f1,f2,ne,⟨vb,tb,c,x,gS,hx,rx⟩,lt,mx⟩:=h;obtain⟨its,rv,p,hz⟩:=I.list (sm.seq hq);obtain⟨y,hy⟩:∃y,xs[j]?=some y:=⟨_,List.getElem?_eq_getElem lj⟩
  obtain⟨u,hu,ru⟩:=rv.get hy;refine codeAny_builtin PySem.F.entry_min_loop ?_;rw[Around.under_plainId PySem.F.plain_min_loop _];show wpAny _ X.A.in1 (seqItems? (.ref S) >>= _) _ _ s;refine wpAny_bind (wpAny_seqItems gS rfl ?_);show wpAny _ X.A.in1 (tryCatch (pyNext (.ref it)) _ >>= _) _ _ s;refine wpAny_bind (wpAny_tryCatch (wpAny_pyNext_list_item st p.isList (x:=u) (by simpa using hu) λh' st' sb=>?_));have I1:Inv X pins σ H1 { s with heap:=h',toks:=s.toks }:=f1.inv I λb o hb e=>(sb.2 b hb).trans e;have gS':=(sb.2 S ne.symm).trans gS;obtain⟨oi,gi,ci,di⟩:=id st';have I2:=zwh I1 f1 f2 gi gS' (λv z=>by rw[di]at z;cases z) (λv z=>by cases z);show wpAny _ X.A.in1 (tryCatch (holding [u] (call (.ref f) [u])) _ >>= _) _ _ _;refine wpAny_bind (wpAny_tryCatch (wpAny_holding (wpAny_mono (hk j y hy _ _ H1 u I2 sm ru) (λkv s2 ⟨H2,t2,ekv,J,sm2⟩=>?_) λe s2 z=>z.elim)))
  ·subst ekv;have p1:=J.pin (it,oi) (List.mem_append_right _ (List.mem_append_right _ (.head _)));have p2:=J.pin (S,seqObj "list" #[vb,.int (kf i) tb] c) (List.mem_append_right _ (List.mem_append_right _ (.tail _ (.head _))));have J':=J.unpinned;show wpAny _ X.A.in1 (tryCatch (holding [u,.int (kf j) t2] (richCompare .Lt (.int (kf j) t2) (.int (kf i) tb) >>= _)) _ >>= _) _ _ _;refine wpAny_bind (wpAny_tryCatch (wpAny_holding (wpAny_bind (CmpOf.ints_lt (prog:=X.prog) (w:=X.w) (A:=X.A.in1) (P:=λi v=>∃t,v=.int (kf i) t) kf (λi v h=>h) j i _ _ _ _ _ ⟨t2,rfl⟩ ⟨tb,rfl⟩ ?_))));refine wpAny_bind (wpAny_holding (wpAny_truthy_bool ?_));refine wpAny_bind (wpAny_letGo (wpAny_pure ?_))
   by_cases z:kf j<kf i
   ·simp only[z,decide_true,if_true];refine wpAny_bind (wpAny_updateSeq p2.1 rfl (wpAny_bind (wpAny_letGo ?_)));rw[nm];refine wpAny_pure ⟨plainId_quiet PySem.F.plain_min_loop _,ih (j+1) j H2 _ (by omega) lj ⟨(f2.at p2.2.1).inv (t':=s2.toks) J' λb o n e=>(Heap.get?_update_other _ _ (Ne.symm n)).trans e,sm.trans sm2,⟨oi,(Heap.get?_update_other _ _ ne.symm).trans p1.1,ci,di⟩,f1.at p1.2.1,f2.at p2.2.1,ne,⟨u,t2,_,y,get?_update_seq p2.1 λ_=>#[u,.int (kf j) t2],hy,ru⟩,Nat.lt_succ_self _,λj' hj=>?_⟩⟩
    by_cases e:j'=j
    ·subst e;exact⟨Int.le_refl _,λq=>absurd q (Nat.lt_irrefl _)⟩
    ·have:=(mx j' (by omega)).1;exact⟨by omega,λ_=>by omega⟩
   ·simp only[z,decide_false,Bool.false_eq_true,if_false];refine wpAny_bind (wpAny_letGo ?_);rw[nm];refine wpAny_pure ⟨plainId_quiet PySem.F.plain_min_loop _,ih (j+1) i H2 _ (by omega) lj ⟨J',sm.trans sm2,⟨oi,p1.1,ci,di⟩,f1.at p1.2.1,f2.at p2.2.1,ne,⟨vb,tb,c,x,p2.1,hx,rx⟩,by omega,λj' hj=>?_⟩⟩
    by_cases e:j'=j
    ·subst e;exact⟨by omega,λq=>absurd lt (by omega)⟩
    ·exact mx j' (by omega)
end
theorem zri(a v d:Value):argsOk "min" ⟨[a],[(Str.ofString "key",v),(Str.ofString "default",d)]⟩:=by unfold argsOk;kernel_rfl
section
variable {X:Cx}{pins:List (Addr×Obj)}{σ:St}{H:Hp}{a f:Addr}{xs:List V}{kf:Nat->Int}{R:Value->Shared->Prop}{s:Shared}
theorem zuu(hc:X.calm=true)(I:Inv X pins σ H s)(hq:SqL X.K H a xs)(hk:∀i x,xs[i]?=some x->zj3 X pins σ f x H (kf i))
  (h0:xs = []->∀s' H',Inv X pins σ H' s'->Same H H'->R .none s')
  (hR:∀i x vb s' H',Inv X pins σ H' s'->Same H H'->xs[i]?=some x->RelV x vb->(∀j',j' < xs.length->kf i<=kf j'/\(j' < i->kf i<kf j'))->R vb s') :
  wpAny (model X.prog X.w) X.A (call (.builtin "min") [.ref a] [(Str.ofString "key",.ref f),(Str.ofString "default",.none)]) R X.xe s:=by
 have nm:(toString "min" ++ toString ".loop" : String) = "min.loop" := by decide
 obtain⟨its,rv,p,hz⟩:=I.list hq;refine PyProof.Rows.kmk_tree F.kind_min F.plain_min F.entry_min (zri _ _ _) ?_;show wpAny _ X.A.in1 (Builtin.Builtins.bindParams "min" ["key", "default"] 0 ⟨[],[(Str.ofString "key",.ref f),(Str.ofString "default",.none)]⟩ >>= _) _ _ s;refine wpAny_bind (wpAny_of_eq (show Builtin.Builtins.bindParams "min" ["key", "default"] 0 ⟨[],[(Str.ofString "key",.ref f),(Str.ofString "default",.none)]⟩=pure [some (.ref f),some .none] from rfl) ?_);refine wpAny_bind (wpAny_pure ?_);refine wpAny_bind (wpAny_pyIter_list p.isList ?_);refine wpAny_bind (wpAny_newObj_type ?_);rw[nm];have hn1:H s.heap.objs.size=none:=I.hok.fresh (Nat.le_refl _);have e1:(s.heap.push { cls:=.type "list_iterator",data:=.fields #[.ref a,.int 0 0] }).objs.size=s.heap.objs.size+1:=Heap.size_push ..;have hn2:H (s.heap.push { cls:=.type "list_iterator",data:=.fields #[.ref a,.int 0 0] }).objs.size=none:=I.hok.fresh (by rw[e1];exact Nat.le_succ _);have f1:FpOk X pins H s.heap.objs.size:=I.fpOk (Nat.le_refl _) hn1;have f2:FpOk X pins H (s.heap.push { cls:=.type "list_iterator",data:=.fields #[.ref a,.int 0 0] }).objs.size:=I.fpOk (by rw[e1];exact Nat.le_succ _) hn2;have ne:s.heap.objs.size≠(s.heap.push { cls:=.type "list_iterator",data:=.fields #[.ref a,.int 0 0] }).objs.size:=by rw[e1];exact Nat.ne_of_lt (Nat.lt_succ_self _)
 generalize eS:(s.heap.push { cls:=.type "list_iterator",data:=.fields #[.ref a,.int 0 0] }).objs.size=S at hn2 f2 ne;have gS:((s.heap.push { cls:=.type "list_iterator",data:=.fields #[.ref a,.int 0 0] }).push { cls:=.type "list",data:=.seq #[] }).get? S=some (seqObj "list" #[] 0):=by rw[<-eS];exact Heap.get?_push_size _ rfl
 have st:((s.heap.push { cls:=.type "list_iterator",data:=.fields #[.ref a,.int 0 0] }).push { cls:=.type "list",data:=.seq #[] }).IsListIter s.heap.objs.size a 0:=⟨_,Heap.get?_push_of_some _ (Heap.get?_push_size _ rfl),rfl,rfl⟩
 have I0:Inv X pins σ H { s with heap:=(s.heap.push { cls:=.type "list_iterator",data:=.fields #[.ref a,.int 0 0] }).push { cls:=.type "list",data:=.seq #[] },toks:=s.toks }:=I.kept λb o e=>Heap.get?_push_of_some _ (Heap.get?_push_of_some _ e);have p0:=(I0.list hq)
 generalize (s.heap.push { cls:=.type "list_iterator",data:=.fields #[.ref a,.int 0 0] }).push { cls:=.type "list",data:=.seq #[] }=h0' at gS st I0 p0;generalize s.heap.objs.size=it at f1 ne st;obtain⟨its,rv,p,hz⟩:=p0;refine wpAny_pure ⟨plainId_quiet F.plain_min_loop _,?_⟩;refine codeAny_builtin F.entry_min_loop ?_;rw[Around.under_plainId F.plain_min_loop _];show wpAny _ X.A.in1 (seqItems? (.ref S) >>= _) _ _ _;refine wpAny_bind (wpAny_seqItems gS rfl ?_);show wpAny _ X.A.in1 (tryCatch (pyNext (.ref it)) _ >>= _) _ _ _;have hl:=rv.length
 cases xs with
 |nil=>
  refine wpAny_bind (wpAny_tryCatch (wpAny_pyNext_list_end (I0.ok.hd hc) st p.isList (by simp;simpa using hl.symm) λh' eb=>?_));refine wpAny_bind (m:=rule _) (wpAny_rule ?_);exact wpAny_pure (h0 rfl _ H (f1.inv (t':=s.toks) I0 λb o hb e=>eb b o hb e) (Same.refl _))
 |cons x xs=>
  obtain⟨u,hu,ru⟩:=rv.get (show(x::xs)[0]?=some x from rfl);refine wpAny_bind (wpAny_tryCatch (wpAny_pyNext_list_item st p.isList (x:=u) (by simpa using hu) λh' st' sb=>?_));have I1:Inv X pins σ H { s with heap:=h',toks:=s.toks }:=f1.inv (s:={ s with heap:=h0',toks:=s.toks }) I0 λb o hb e=>(sb.2 b hb).trans e;have gS':=(sb.2 S ne.symm).trans gS;obtain⟨oi,gi,ci,di⟩:=id st';have I2:=zwh I1 f1 f2 gi gS' (λv z=>by rw[di]at z;cases z) (λv z=>by cases z);show wpAny _ X.A.in1 (tryCatch (holding [u] (call (.ref f) [u])) _ >>= _) _ _ _;refine wpAny_bind (wpAny_tryCatch (wpAny_holding (wpAny_mono (hk 0 x rfl _ _ H u I2 (Same.refl _) ru) (λkv s2 ⟨H2,t2,ekv,J,sm2⟩=>?_) λe s2 z=>z.elim)));subst ekv;have p1:=J.pin (it,oi) (List.mem_append_right _ (List.mem_append_right _ (.head _)));have p2:=J.pin (S,seqObj "list" #[] 0) (List.mem_append_right _ (List.mem_append_right _ (.tail _ (.head _))));have J':=J.unpinned;show wpAny _ X.A.in1 (updateSeq S (λ_=>#[u,.int (kf 0) t2]) >>= _) _ _ _;refine wpAny_bind (wpAny_updateSeq p2.1 rfl ?_);rw[nm];refine wpAny_pure ⟨plainId_quiet F.plain_min_loop _,zrh (kf:=kf) hc hq hk hR _ 1 0 H2 _ rfl (by simp) ⟨(f2.at p2.2.1).inv (t':=s2.toks) J' λb o n e=>(Heap.get?_update_other _ _ (Ne.symm n)).trans e,sm2,⟨oi,(Heap.get?_update_other _ _ ne.symm).trans p1.1,ci,di⟩,f1.at p1.2.1,f2.at p2.2.1,ne,⟨u,t2,_,x,get?_update_seq p2.1 λ_=>#[u,.int (kf 0) t2],rfl,ru⟩,Nat.lt_succ_self _,λj' hj=>?_⟩⟩
  cases (show j'=0 by omega);exact⟨Int.le_refl _,λq=>absurd q (Nat.lt_irrefl _)⟩
end
def zef(q:Str)(scope:Scope)(L f:Addr)(cd:Value)(clos:List (Str×Addr)):Env:=newEnv scope L mainGlobals clos (q ++ ".<locals>.") (some f) cd none builtinsNs
def zm7(P:Program)(w:World)(K:PySem.W.Frag)(mg:Str->Option Value)(base:Heap)(N:List Str)(q:Str)(scope:Scope)(f:Addr)(cd:Value)(clos:List (Str×Addr))(A:Around)(outer:List Env)(s:Shared)(H:Hp)(E:XK):Cx where
 prog:=P
 w:=w
 K:=K
 mg:=mg
 base:=base
 A:=A.deeper (zef q scope s.heap.objs.size f cd clos)
 N:=N
 s₀:=s
 H₀:=H
 env:=zef q scope s.heap.objs.size f cd clos
 outer:=outer
 stack:=zef q scope s.heap.objs.size f cd clos::outer
 ex:=[]
 calm:=true
 fn:=λ_=>false
 pn:=[]
 xe:=λe s'=>wpAny (model P w) (A.deeper (zef q scope s.heap.objs.size f cd clos)) (leaving (zef q scope s.heap.objs.size f cd clos) e) (λ_ s''=>CX0 outer H s E e s'') (λe' s''=>CX0 outer H s E e' s'') s'
structure zb0(y n:Str)(sc:Scope):Prop where
 kind:sc.kind=.function
 co:sc.isCoroutine=false
 gen:sc.isGenerator=false
 ne:y≠n
 loc:sc.names.lookup y=some .local
 fre:sc.names.lookup n=some .free
 only:∀x∈sc.names,x.2 ≠ .cell/\(x.2=.free->x.1=n)
theorem zj6{P:Program}{w:World}{K:PySem.W.Frag}{mg:Str->Option Value}{base:Heap}{y n q:Str}{scope:Scope}{f c:Addr}{cd:Value}{A:Around}{outer:List Env}{s:Shared}{h':Heap}{tk:Nat}{H:Hp}{E:XK}{u un:Value}{v vn:V}
  (S:zb0 y n scope) (hd:A.handled=none) (e0:Env0 P w K mg base A outer s H) (r:RelV v u) (rn:RelV vn un) (hc:s.heap.IsCell c (some un)) (fc:H c=none)
  (hns:h'.Ns s.heap.objs.size (λx=>[(y,u)].reverse.lookup x)) (hk:∀b o,s.heap.get? b=some o->h'.get? b=some o) :
  Inv (zm7 P w K mg base [y,n] q scope f cd [(n,c)] A outer s H E) [] [some v,some vn] H { s with heap:=h',toks:=tk }:=by
 have noA:∀b:Addr,b∉(zm7 P w K mg base [y,n] q scope f cd [(n,c)] A outer s H E).ex:=λb z=>absurd (show b∈([]:List Addr) from z) (by simp);have look:∀x c',([(n,c)]:List (Str×Addr)).lookup x=some c'->x=n/\c'=c:=λx c' h=>by
  rw[List.lookup_cons]at h
  cases e:(x == n) with
  |true=>rw[e]at h;exact⟨eq_of_beq e,(Option.some.inj h).symm⟩
  |false=>rw[e]at h;cases h
 have hcell:h'.IsCell c (some un):=by obtain⟨o,ho,hd⟩:=hc;exact⟨o,hk _ _ ho,hd⟩
 refine⟨⟨e0.mod,S.kind,rfl,rfl,Nat.le_refl _,λx z c' h1 h2=>?_,λx hx=>?_,λx c' hf h=>(by cases hf),λ_=>hd,Around.frames_deeper e0.frames,.inr ⟨rfl,rfl⟩,λb z=>absurd z (noA b),e0.bs,e0.bsz,λb _ _=>noA b,λb z=>absurd z (noA b),e0.funs,e0.frf⟩,
  rfl,e0.bare,Un.kept hk,⟨_,hns,λi x v' h1 h2 h3=>?_⟩,λx c' h=>?_,e0.hok.fresh (Nat.le_refl _),λx c' h=>?_,λp hp=>absurd (show p∈([]:List (Addr×Obj)) from hp) (by simp),e0.hok.kept hk,rfl⟩
 ·exact(look x c' h1).1.trans (look z c' h2).1.symm
 ·have hx:scope.names.lookup x=some .cell\/scope.names.lookup x=some .free:=hx;rcases hx with hx|hx
  ·exact absurd rfl (S.only _ (PySem.mem_of_lookup hx)).1
  ·have:=(S.only _ (PySem.mem_of_lookup hx)).2 rfl;have e:x=n:=this;exact⟨c,by show List.lookup x [(n,c)]=some c;rw[e];simp⟩
 ·match i,h1,h2 with
  |0,h1,h2=>
   cases h1
   cases h2;exact⟨u,r,.inl ⟨S.loc,by simp⟩⟩
  |1,h1,h2=>
   cases h1
   cases h2;exact⟨un,rn,.inr ⟨.inr S.fre,c,by show List.lookup n [(n,c)]=some c;simp,hcell⟩⟩
  |i+2,h1,h2=>cases h2
 ·rw[(look x c' h).2];exact⟨_,hcell⟩
 ·rw[(look x c' h).2];exact fc
theorem zpl{P:Program}{w:World}{K:PySem.W.Frag}{mg:Str->Option Value}{base:Heap}{k:Nat}{f c' c:Addr}{q y n:Str}{params:Arguments}{body:Expr}{scope:Scope}{pm ctv:Value}{A:Around}{outer:List Env}{s:Shared}{H:Hp}
  {u un:Value}{v vn:V}{Q:VK}{E:XK}{t:TE} (hr:Room (k+1) A) (e0:Env0 P w K mg base A outer s H) (lk:s.heap.get? f=some (PySem.W.kla_obj "<lambda>" q params body scope [(n,c)] pm c' ctv)) (hcd:s.heap.CodeRec (.ref c') q) (S:zb0 y n scope)
  (hb:bindArgs (PySem.W.kla_fn "<lambda>" q params body scope [(n,c)] pm (.ref c') ctv) ⟨[u],[]⟩=pure [(y,u)]) (r:RelV v u) (rn:RelV vn un) (hc:s.heap.IsCell c (some un)) (fc:H c=none)
  (ht:PE (zm7 P w K mg base [y,n] q scope f (.ref c') [(n,c)] A outer s H E).nox body t) (hq:t [some v,some vn] H Q):codeAny (model P w) A (.call (.ref f) ⟨[u],[]⟩) (CR CX0 outer P w H s Q E) s:=by
 have lim:s.heap.NoLimit:=e0.mod.nolimit.keeps λb o e=>(e0.bs b o e).1;refine PySem.W.kla_callFunE hr.depth lk rfl S.co S.gen rfl hcd (wpAny_of_eq hb ?_);refine wpAny_newFunctionEnv (λx hx=>(S.only x hx).1) (λx hx=>by rw[List.mem_singleton.mp hx];exact S.loc) (λh' hns hsb=>?_) S.kind;have hk:∀b o,s.heap.get? b=some o->h'.get? b=some o:=λb o e=>(hsb.2 b (Nat.ne_of_lt (Heap.lt_size e))).trans (Heap.get?_push_of_some _ e);refine⟨lim.keeps hk,PySem.W.kla_codeExpr ?_⟩;have I:Inv (zm7 P w K mg base [y,n] q scope f (.ref c') [(n,c)] A outer s H E) [] [some v,some vn] H { s with heap:=h',toks:=s.toks + [(y,u)].length }:=zj6 S hr.hd e0 r rn hc fc hns hk;exact wpAny_mono (ht.nox [] _ _ H _ I hq) (λu s' ⟨v,H',J,rv,qv⟩=>⟨v,H',J.os,J.bare,J.base,J.hok,rv,qv⟩) λe s' hs=>hs
section
variable {X:Cx}{a body:Expr}{ta:DTF}{tb:DTE}{p pos kp kp2 lp cp:Pos}{k:Nat}{P c:Addr}{q y n:Str}{params:Arguments}{scope:Scope}
theorem zpm{pins:List (Addr×Obj)}{σ:St}{H:Hp}{f c' cl:Addr}{oc:Obj}{u:HO}{pm ctv:Value}{x vn:V}{d dn:D}{m:Int}{i:Nat}(hr:Room (k+2) X.A)(S:zb0 y n scope)
  (hN:X.N[i]?=some n) (hk:X.env.kindOf n=some .cell) (hcl:X.env.cells.lookup n=some cl) (hvis:Vis X.env.scope n)
  (hbd:∀(pm cd ctv u:Value),bindArgs (PySem.W.kla_fn "<lambda>" q params body scope [(n,cl)] pm cd ctv) ⟨[u],[]⟩=pure [(y,u)])
  (hb:∀(A:Around) (outer:List Env) (s:Shared) (H:Hp) (E:XK) (f:Addr) (cd:Value) (cs:List (Str×Addr)),Room k (A.deeper (zef q scope s.heap.objs.size f cd cs))->DE (zm7 X.prog X.w X.K X.mg X.base [y,n] q scope f cd cs A outer s H E).nox body tb)
  (hc':H c'=some (.frz oc u)) (co:zkh oc q) (rp:Rep X.K H d x) (hv:σ[i]?=some (some vn)) (rn:Rep X.K H dn vn) (hn:tb [some (.val d),some (.val dn)] λr=>r=.int m) :
  zj3 X (pins ++ [(f,PySem.W.kla_obj "<lambda>" q params body scope [(n,cl)] pm c' ctv)]) σ f x H m:=λps s1 H1 u1 I1 sm ru=>by
 have pf:=I1.pin (f,PySem.W.kla_obj "<lambda>" q params body scope [(n,cl)] pm c' ctv) (List.mem_append_right _ (List.mem_append_left _ (List.mem_append_right _ (.head _))));obtain⟨vs,tq,hd,hv'⟩:=co;obtain⟨g,_⟩:=(show ObjOk X.prog X.w H1 s1.heap c' (.frz oc u) from I1.hok c' _ (sm _ _ hc'))
 obtain⟨mm,hns,hl⟩:=id I1.loc;obtain⟨un,rvn,lk⟩:=hl i n vn hN hv hvis;have cell:s1.heap.IsCell cl (some un):=by
  rcases lk with⟨z,_⟩ |⟨_,c2,e2,z⟩
  ·rw[hk]at z;cases z
  ·rw[hcl]at e2;cases e2;exact z
 have run:=zpl (k:=k) (y:=y) (n:=n) (u:=u1) (un:=un) (v:=x) (vn:=vn) (Q:=λv H2=>Same H1 H2/\v=.int m) (E:=E0) hr.in1 I1.env0.in1 pf.1 ⟨c',oc,vs,tq,rfl,g,hd,hv'⟩ S (hbd _ _ _ _) ru rvn cell (I1.freeC n cl hcl)
  (hb _ _ _ _ _ _ _ _ (hr.in1.deeper _)).pe ⟨H1,[some (.val d),some (.val dn)],λr=>r=.int m,DOk.begin (.cons (show ztj X.K H1 (.val d) x from rp.same sm) (.cons (show ztj X.K H1 (.val dn) vn from rn.same sm) .nil)) [y,n],hn,λv H' d' sm' rp' e=>by subst e;cases rp';exact⟨sm',rfl⟩⟩
 refine wpAny_call (codeAny_mono run λr s' h=>?_)
 cases r with
 |error e=>exact False.elim h
 |ok fl=>
  cases fl with
  |ret u2=>
   obtain⟨v,H2,J,rv,sm2,e⟩:=I1.after h;subst e;obtain⟨t,rfl⟩:=rv;exact⟨H2,t,rfl,J,sm2⟩
  |next=>exact False.elim h
  |brk=>exact False.elim h
  |cont=>exact False.elim h
def zg0(i:Nat)(rb:D->D->(D->Prop)->Prop)(ta:DTF):DTE:=λσ Q=>match σ[i]? with
 |some (some (.val dn))=>ta σ λds=>match ds with
  |[.list xs]=>∃kf:D->Int,(∀x∈xs,rb x dn λr=>r=.int (kf x))/\(xs = []->Q .none)/\∀(i:Nat) x,xs[i]?=some x->(∀(j:Nat) y,xs[j]?=some y->kf x<=kf y/\(j<i->kf x<kf y))->Q x
  |_=>False
 |_=>False
theorem zpn{j i:Nat}{cl:Addr}(hc:X.calm=true)(hr:Room (k+2) X.A)(hg:Gl X "min")(hm:X.mg "min" = none)(ha:DAv X [a] ta)(hT:za0 q P X.H₀)(C:PySem.W.CodeHd X.base c P)(hcode:X.env.code=.ref c)(hB:zaa X.mg X.base)
  (hq:X.env.qual ++ "<lambda>" = q) (hclo:closureFor scope X.env=pure [(n,cl)]) (hdf:defaultsOf params X.env=([],[])) (S:zb0 y n scope)
  (hN:X.N[i]?=some n) (hk:X.env.kindOf n=some .cell) (hcl:X.env.cells.lookup n=some cl) (hvis:Vis X.env.scope n)
  (hbd:∀(pm cd ctv u:Value),bindArgs (PySem.W.kla_fn "<lambda>" q params body scope [(n,cl)] pm cd ctv) ⟨[u],[]⟩=pure [(y,u)])
  (hb:∀(A:Around) (outer:List Env) (s:Shared) (H:Hp) (E:XK) (f:Addr) (cd:Value) (cs:List (Str×Addr)),Room k (A.deeper (zef q scope s.heap.objs.size f cd cs))->DE (zm7 X.prog X.w X.K X.mg X.base [y,n] q scope f cd cs A outer s H E).nox body tb)
  (he:starEach [a] X.env=(false,eval a X.env)::starEach [] X.env:=by rfl) :
  DE X (.Call (.Name "min" p) [a] [⟨some (Str.ofString "key"),.Lambda params body scope lp,kp⟩,⟨some (Str.ofString "default"),.Constant .none j cp,kp2⟩] pos) (zg0 i (λx dn=>tb [some (.val x),some (.val dn)]) ta) :=
 ⟨λpins s σ H H₀ σD Q I ok q0=>by
 unfold zg0 at q0
 split at q0
 case h_2=>exact q0.elim
 next dn edn=>
 obtain⟨vn,evn,rn⟩:=ok.val edn;refine wpAny_Call_Name_kw (kx I hg hm boot_min ?_ (by decide) (by decide));refine callWith_kw (thn (ha.run pos pins s σ H H₀ σD _ I ok q0) λus s1 ⟨vs,H1,ds,I1,r1,sm1,rp1,q1⟩=>?_) (by rw[he];rfl) (by rw[he];rfl);refine wpAny_evalAll_cons (wpAny_bind (PySem.W.kla_eval hdf ?_));rw[hq];refine zm6 I1 (I1.tabAt hT) C hcode hB hclo λf c' oc u ctv H2 s2 I2 sm2 hc' co lf _ hf gf=>?_;refine wpAny_bind (wpAny_standAt (wpAny_pure (wpAny_evalAll_cons (wpAny_bind (wpAny_Constant_none (wpAny_bind (wpAny_standAt (wpAny_pure (wpAny_evalAll_nil ?_)))))))))
 match ds,q1,rp1 with
 |[.list xs],q1,rp1=>
  obtain⟨v',rfl,r⟩:=rp1.one;obtain⟨kf,k1,k2,k3⟩:=q1;obtain⟨u',rfl,ru⟩:=r1.one;obtain⟨b,ws,rfl,hs,rs⟩:∃b ws,v'=.ref b/\SqL X.K H1 b ws/\Reps X.K H1 xs ws:=by
   rcases r with r |⟨_,z,r⟩
   ·cases r with
    |@lst _ b ws o hs rs=>exact⟨b,ws,rfl,.inl (.inr ⟨o,hs⟩),rs⟩
   ·cases z;obtain⟨b,ws,rfl,hs,rs⟩:=r;exact⟨b,ws,rfl,Or.inl hs,rs⟩
  cases ru;have fp:=I1.fpOk (H':=H2) lf hf;have I3:Inv X (pins ++ [(f,PySem.W.kla_obj "<lambda>" q params body scope [(n,cl)] ((X.mg "__name__").getD .none) c' ctv)]) σ H2 s2:=I2.pins_of λz hz=>by
   rcases List.mem_append.mp hz with hz|hz
   ·exact I2.pin z (List.mem_append_right _ hz)
   ·rw[List.mem_singleton.mp hz];exact⟨gf,hf,fp.2.1,fp.2.2.1,λv z=>by cases z⟩
  have rs2:=rs.same sm2;have at1:∀(i:Nat) (x:V),ws[i]?=some x->∃d,xs[i]?=some d/\Rep X.K H2 d x:=λi x h=>rs2.get' h;have len:xs.length=ws.length:=rs.length;refine zuu (kf:=λi=>kf (xs.getD i .none)) hc I3 (sm2.seq hs) (λi x hx=>?_) (λz s' H' J sm=>?_) λi x vb s' H' J sm hx rx mx=>?_
  ·obtain⟨d,hd,rd⟩:=at1 i x hx;rw[List.getD_eq_getElem?_getD,hd];exact zpm hr S hN hk hcl hvis hbd hb hc' co rd evn ((rn.same sm1).same sm2) (k1 d (List.mem_of_getElem? hd))
  ·subst z;exact⟨.non,H',.none,J.unpinned,rfl,sm1.trans (sm2.trans sm),.non,k2 (List.eq_nil_of_length_eq_zero len)⟩
  ·obtain⟨d,hd,rd⟩:=at1 i x hx;refine⟨x,H',d,J.unpinned,rx,sm1.trans (sm2.trans sm),rd.same sm,k3 i d hd λj y hy=>?_⟩;have:=mx j (by rw[<-len];exact(List.getElem?_eq_some_iff.mp hy).1);simp only[List.getD_eq_getElem?_getD,hd,hy,Option.getD_some]at this;exact this⟩
end
end L2
namespace My
open PySem L2 PyProof.Rows
def top(i:Nat):Stmt:=PySem.Challenge.pw_knockpurse_k75_the_least_silence.main.body.getD i (.Pass ⟨0,0,0,0⟩)
abbrev x6:Stmt:=top 5
theorem zh9:yb ["thing"] ["thing"] (zd x6):=⟨rfl,rfl,rfl,by decide +kernel,rfl,by decide +kernel,by decide +kernel⟩
abbrev x8:Stmt:=top 6
theorem zia:yb ["thing", "least", "most"] ["thing", "least", "most"] (zd x8):=⟨rfl,rfl,rfl,by decide +kernel,rfl,by decide +kernel,by decide +kernel⟩
abbrev wt:Stmt:=top 8
theorem sc_growing:yb ["gaps", "many", "first", "times", "more", "most", "row", "further"] ["gaps", "many"] (zd wt):=⟨rfl,rfl,rfl,by decide +kernel,rfl,by decide +kernel,by decide +kernel⟩
abbrev vr:Stmt:=top 9
theorem zm8:yb ["gaps", "k"] ["gaps", "k"] (zd vr):=⟨rfl,rfl,rfl,by decide +kernel,rfl,by decide +kernel,by decide +kernel⟩
abbrev xb:Stmt:=top 12
theorem sc_stretches_of:yb ["beats", "stretches", "beat"] ["beats"] (zd xb):=⟨rfl,rfl,rfl,by decide +kernel,rfl,by decide +kernel,by decide +kernel⟩
abbrev xx:Stmt:=top 13
theorem zg1:yb ["story", "beat"] ["story", "beat"] (zd xx):=⟨rfl,rfl,rfl,by decide +kernel,rfl,by decide +kernel,by decide +kernel⟩
abbrev xj:Stmt:=top 14
theorem zeg:yb ["story", "first", "last"] ["story", "first", "last"] (zd xj):=⟨rfl,rfl,rfl,by decide +kernel,rfl,by decide +kernel,by decide +kernel⟩
abbrev x9:Stmt:=top 15
theorem zib:yb ["number", "n"] ["number", "n"] (zd x9):=⟨rfl,rfl,rfl,by decide +kernel,rfl,by decide +kernel,by decide +kernel⟩
abbrev jr:Stmt:=top 22
theorem sc_lets:yb ["gate", "standing", "beat", "word", "until", "now"] ["gate", "standing", "beat"] (zd jr):=⟨rfl,rfl,rfl,by decide +kernel,rfl,by decide +kernel,by decide +kernel⟩
abbrev qm:Stmt:=top 23
theorem zpo:yb ["gate", "standing", "beat", "answered"] ["gate", "standing", "beat", "answered"] (zd qm):=⟨rfl,rfl,rfl,by decide +kernel,rfl,by decide +kernel,by decide +kernel⟩
abbrev xr:Stmt:=top 24
theorem sc_heard_open:yb ["gate", "bad", "beat", "answered", "fails", "rest", "times", "most", "trials"] ["gate", "bad", "beat", "answered"] (zd xr):=⟨rfl,rfl,rfl,by decide +kernel,rfl,by decide +kernel,by decide +kernel⟩
abbrev xc:Stmt:=top 25
theorem sc_heard_trying:yb ["gate", "standing", "beat", "answered", "fails", "rest", "times", "most", "trials", "word", "good", "now", "then"] ["gate", "standing", "beat", "answered"] (zd xc):=⟨rfl,rfl,rfl,by decide +kernel,rfl,by decide +kernel,by decide +kernel⟩
abbrev xk:Stmt:=top 29
theorem zeh:yb ["purse", "coins", "many"] ["purse", "coins", "many"] (zd xk):=⟨rfl,rfl,rfl,by decide +kernel,rfl,by decide +kernel,by decide +kernel⟩
abbrev wu:Stmt:=top 30
theorem zj7:yb ["purse", "coins"] ["purse", "coins"] (zd wu):=⟨rfl,rfl,rfl,by decide +kernel,rfl,by decide +kernel,by decide +kernel⟩
abbrev wa:Stmt:=top 31
theorem zic:yb ["purse", "coins", "sign"] ["purse", "coins", "sign"] (zd wa):=⟨rfl,rfl,rfl,by decide +kernel,rfl,by decide +kernel,by decide +kernel⟩
abbrev wc:Stmt:=top 34
theorem sc_first_of:yb ["caller", "plan", "purse", "gate"] ["caller"] (zd wc):=⟨rfl,rfl,rfl,by decide +kernel,rfl,by decide +kernel,by decide +kernel⟩
abbrev wv:Stmt:=top 35
theorem sc_knocked:yb ["gate", "standing", "beat", "sound", "through", "standing_then"] ["gate", "standing", "beat", "sound"] (zd wv):=⟨rfl,rfl,rfl,by decide +kernel,rfl,by decide +kernel,by decide +kernel⟩
abbrev ww:Stmt:=top 36
theorem sc_what_of:yb ["caller", "coins", "beat", "begin", "tries", "gaps", "knocks", "time", "purse", "gate", "due"] ["caller", "coins", "beat", "begin", "tries"] (zd ww):=⟨rfl,rfl,rfl,by decide +kernel,rfl,by decide +kernel,by decide +kernel⟩
abbrev qo:Stmt:=top 37
theorem sc_tried:yb ["caller", "standing", "sound", "number", "begin", "tries", "beat", "waiting", "coins", "at_gate", "begun", "word", "what"] ["caller", "standing", "sound", "number", "begin", "tries"] (zd qo):=⟨rfl,rfl,rfl,by decide +kernel,rfl,by decide +kernel,by decide +kernel⟩
abbrev qp:Stmt:=top 38
theorem sc_asked:yb ["caller", "standing", "beat", "waiting", "coins", "at_gate", "begun"] ["caller", "standing"] (zd qp):=⟨rfl,rfl,rfl,by decide +kernel,rfl,by decide +kernel,by decide +kernel⟩
abbrev wx:Stmt:=top 39
theorem sc_stepped:yb ["caller", "standing", "sound", "many", "beat", "waiting", "coins", "at_gate", "begun", "due", "then", "events", "number", "begin", "tries", "event"] ["caller", "standing", "sound", "many"] (zd wx):=⟨rfl,rfl,rfl,by decide +kernel,rfl,by decide +kernel,by decide +kernel⟩
abbrev xl:Stmt:=top 41
theorem sc_told_behind:yb ["caller", "told", "sound", "many", "standing", "knocks", "served", "lost", "then", "events", "words", "lost_now"] ["caller", "told", "sound", "many"] (zd xl):=⟨rfl,rfl,rfl,by decide +kernel,rfl,by decide +kernel,by decide +kernel⟩
abbrev wy:Stmt:=top 42
theorem sc_told_of:yb ["caller", "beginnings", "story", "told", "beat", "many"] ["caller", "beginnings", "story"] (zd wy):=⟨rfl,rfl,rfl,by decide +kernel,rfl,by decide +kernel,by decide +kernel⟩
abbrev wd:Stmt:=top 43
theorem sc_all_told:yb ["caller", "beginnings", "row", "many"] ["caller", "beginnings"] (zd wd):=⟨rfl,rfl,rfl,by decide +kernel,rfl,by decide +kernel,by decide +kernel⟩
abbrev xf:Stmt:=top 44
theorem sc_losing_story:yb ["caller", "beginnings", "n", "losing"] ["caller", "beginnings"] (zd xf):=⟨rfl,rfl,rfl,by decide +kernel,rfl,by decide +kernel,by decide +kernel⟩
abbrev xg:Stmt:=top 45
theorem sc_least_silent:yb ["caller", "beginnings", "story"] ["caller", "beginnings"] (zd xg):=⟨rfl,rfl,rfl,by decide +kernel,rfl,by decide +kernel,by decide +kernel⟩
abbrev xh:Stmt:=top 47
theorem zc5:yb ["_law_script", "_law_k"] ["_law_script", "_law_k"] (zd xh):=⟨rfl,rfl,rfl,by decide +kernel,rfl,by decide +kernel,by decide +kernel⟩
abbrev xy:Stmt:=top 48
theorem sc__law_next:yb ["_law_seed"] ["_law_seed"] (zd xy):=⟨rfl,rfl,rfl,by decide +kernel,rfl,by decide +kernel,by decide +kernel⟩
abbrev xm:Stmt:=top 49
theorem sc__law_pen_of:yb ["_law_cell", "_law_left"] ["_law_cell"] (zd xm):=⟨rfl,rfl,rfl,by decide +kernel,rfl,by decide +kernel,by decide +kernel⟩
abbrev xz:Stmt:=top 50
theorem sc__law_draw:yb ["_law_pen", "_law_many", "_law_found"] ["_law_pen", "_law_many"] (zd xz):=⟨rfl,rfl,rfl,by decide +kernel,rfl,by decide +kernel,by decide +kernel⟩
abbrev xn:Stmt:=top 51
theorem sc__law_caller:yb ["_law_pen", "_law_gaps", "_law_plan", "_law_cap", "_law_rest", "_law_purse", "_law_gate"] ["_law_pen"] (zd xn):=⟨rfl,rfl,rfl,by decide +kernel,rfl,by decide +kernel,by decide +kernel⟩
abbrev yx:Stmt:=top 52
theorem zbb:yb ["_law_pen"] ["_law_pen"] (zd yx):=⟨rfl,rfl,rfl,by decide +kernel,rfl,by decide +kernel,by decide +kernel⟩
abbrev we:Stmt:=top 53
theorem sc__law_gap:yb ["_law_gaps", "_law_k", "_law_gap_here", "_law_turn"] ["_law_gaps", "_law_k"] (zd we):=⟨rfl,rfl,rfl,by decide +kernel,rfl,by decide +kernel,by decide +kernel⟩
abbrev x0:Stmt:=top 54
theorem sc__law_hear:yb ["_law_gate", "_law_now", "_law_beat", "_law_sound", "_law_bad", "_law_rest"] ["_law_gate", "_law_now", "_law_beat", "_law_sound"] (zd x0):=⟨rfl,rfl,rfl,by decide +kernel,rfl,by decide +kernel,by decide +kernel⟩
abbrev wf:Stmt:=top 55
theorem sc__law_try:yb ["_law_caller_here", "_law_state", "_law_sound", "_law_one", "_law_plan", "_law_purse", "_law_gate", "_law_number", "_law_begin", "_law_tries", "_law_word", "_law_what", "_law_due"] ["_law_caller_here", "_law_state", "_law_sound", "_law_one"] (zd wf):=⟨rfl,rfl,rfl,by decide +kernel,rfl,by decide +kernel,by decide +kernel⟩
abbrev x3:Stmt:=top 56
theorem sc__law_step:yb ["_law_caller_here", "_law_standing", "_law_sound", "_law_many", "_law_beat", "_law_waiting", "_law_coins", "_law_now", "_law_begun", "_law_state", "_law_events", "_law_turn"] ["_law_caller_here", "_law_standing", "_law_sound", "_law_many"] (zd x3):=⟨rfl,rfl,rfl,by decide +kernel,rfl,by decide +kernel,by decide +kernel⟩
abbrev xt:Stmt:=top 57
theorem zfc:yb ["_law_caller_here"] ["_law_caller_here"] (zd xt):=⟨rfl,rfl,rfl,by decide +kernel,rfl,by decide +kernel,by decide +kernel⟩
abbrev xo:Stmt:=top 58
theorem sc__law_counts:yb ["_law_events", "_law_knocks", "_law_served"] ["_law_events"] (zd xo):=⟨rfl,rfl,rfl,by decide +kernel,rfl,by decide +kernel,by decide +kernel⟩
abbrev x4:Stmt:=top 59
theorem sc__law_gone:yb ["_law_caller_here", "_law_beginnings_here", "_law_number", "_law_standing", "_law_found", "_law_beat", "_law_many", "_law_events"] ["_law_caller_here", "_law_beginnings_here", "_law_number"] (zd x4):=⟨rfl,rfl,rfl,by decide +kernel,rfl,by decide +kernel,by decide +kernel⟩
abbrev xi:Stmt:=top 60
theorem sc__law_by_bits:yb ["_law_number", "_law_found", "_law_beat"] ["_law_number"] (zd xi):=⟨rfl,rfl,rfl,by decide +kernel,rfl,by decide +kernel,by decide +kernel⟩
abbrev xp:Stmt:=top 61
theorem zei:yb ["_law_number"] ["_law_number"] (zd xp):=⟨rfl,rfl,rfl,by decide +kernel,rfl,by decide +kernel,by decide +kernel⟩
abbrev jw:Stmt:=top 62
theorem sc_law:yb ["_law_script", "_law_cell", "_law_pen", "_law_caller_here", "_law_beginnings_here", "_law_every", "_law_lost_by", "_law_due", "_law_turn"] ["_law_script"] (zd jw):=⟨rfl,rfl,rfl,by decide +kernel,rfl,by decide +kernel,by decide +kernel⟩
structure Blt(mg:Str->Option Value):Prop where
 len:mg "len" = none
 range:mg "range" = none
 enumerate:mg "enumerate" = none
 sum:mg "sum" = none
 min:mg "min" = none
 max:mg "max" = none
 repr:mg "repr" = none
 isinstance:mg "isinstance" = none
 any:mg "any" = none
 zip:mg "zip" = none
 sorted:mg "sorted" = none
 tupleT:mg "tuple" = none
 intT:mg "int" = none
 listT:mg "list" = none
 strT:mg "str" = none
 boolT:mg "bool" = none
abbrev Cal(P:Program)(w:World)(K:PySem.W.Frag)(mg:Str->Option Value)(base:Heap):=yg P w K mg base
local macro_rules|`(tactic| walk_at "dr")=>`(tactic| dsimp only[↓zpb,↓zpc,↓zra,↓zul,↓gIf,↓zgx,↓zj0,↓zrb,↓zrc,↓zli,↓zpe,↓zj4,↓zph,↓zlm,↓zdo,↓startV,↓zrg,↓zea,↓O.bare,↓O.with,↓zoj,↓zoi,↓zqw,↓zom,↓zon,↓zt8,↓zt9,↓zou,↓zov,↓zow,↓zpk,↓zg0,↓dIf,↓zua,↓zt7,↓zol,↓zky,↓zqy,↓zor,↓zji,↓zjj,↓zqh,↓zqi,↓zk1,↓zue,↓dC,↓zhn,↓znz,↓zn0,↓zn1,↓zqj,↓ztk,↓zqk,↓dFz,↓dTB,↓onB,↓ztl,↓ztm,↓ztn,↓zn2,↓zn3,↓zto,↓dOp,↓zja,↓dUn,↓ztp,↓ztq,↓gII,↓ze8,↓ztr,↓zts,↓ztt,↓ztu,↓gEq,↓gNe,↓ztv,↓isNone,↓gIn,↓dCB,↓dCF,↓ztw,↓ztx,↓zty,↓ztz,↓zjc,↓gIx,↓zn9,↓zgk,↓dSl,↓zgl,↓zdi,↓zgm,↓zkw,↓zgn,↓zgo,↓zt5,↓zjn,↓zjf,↓zof,↓zjg,↓zog,↓zot,↓dLC,↓zur,↓jd,↓zuq,↓lcF,↓zoh,↓zkx,↓zjh,↓Ret.d,↓jo,↓x5,↓zhq,↓clr,↓zti,↓dIs,↓isD,↓zjr,↓zt0,↓zt1,↓zjx,↓zjz,↓dLR,List.map_cons,List.map_nil,List.length_cons,List.length_nil,List.replicate_succ,List.replicate_zero,List.cons_append,List.nil_append,List.append_nil,List.set_cons_zero,List.set_cons_succ,List.getElem?_cons_zero,List.getElem?_cons_succ,Option.join_some,Nat.reduceAdd,Nat.reduceSub,Nat.zero_add,Bool.not_true,Bool.not_false])
local macro_rules|`(tactic| walk_at "ds")=>`(tactic| first|simp only[↓zpb,↓zpc,↓zra,↓zul,↓gIf,↓zgx,↓zj0,↓zrb,↓zrc,↓zli,↓zpe,↓zj4,↓zph,↓zlm,↓zdo,↓startV,↓zrg,↓zea,↓O.bare,↓O.with,↓zoj,↓zoi,↓zqw,↓zom,↓zon,↓zt8,↓zt9,↓zou,↓zov,↓zow,↓zpk,↓zg0,↓dIf,↓zua,↓zt7,↓zol,↓zky,↓zqy,↓zor,↓zji,↓zjj,↓zqh,↓zqi,↓zk1,↓zue,↓dC,↓zhn,↓znz,↓zn0,↓zn1,↓zqj,↓ztk,↓zqk,↓dFz,↓dTB,↓onB,↓ztl,↓ztm,↓ztn,↓zn2,↓zn3,↓zto,↓dOp,↓zja,↓dUn,↓ztp,↓ztq,↓gII,↓ze8,↓ztr,↓zts,↓ztt,↓ztu,↓gEq,↓gNe,↓ztv,↓isNone,↓gIn,↓dCB,↓dCF,↓ztw,↓ztx,↓zty,↓ztz,↓zjc,↓gIx,↓zn9,↓zgk,↓dSl,↓zgl,↓zdi,↓zgm,↓zkw,↓zgn,↓zgo,↓zt5,↓zjn,↓zjf,↓zof,↓zjg,↓zog,↓zot,↓dLC,↓zur,↓jd,↓zuq,↓lcF,↓zoh,↓zkx,↓zjh,↓Ret.d,↓jo,↓x5,↓zhq,↓clr,↓zti,↓dIs,↓isD,↓zjr,↓zt0,↓zt1,↓zjx,↓zjz,↓dLR,List.map_cons,List.map_nil,List.length_cons,List.length_nil,List.replicate_succ,List.replicate_zero,List.cons_append,List.nil_append,List.append_nil,List.set_cons_zero,List.set_cons_succ,List.getElem?_cons_zero,List.getElem?_cons_succ,Option.join_some,Nat.reduceAdd,Nat.reduceSub,Nat.zero_add,Bool.not_true,Bool.not_false,if_true,if_false,reduceIte,decide_eq_true_eq,Bool.not_eq_true',decide_eq_false_iff_not,true_and,and_true,Bool.false_eq_true,Bool.not_eq_eq_eq_not,eq_self,and_self,List.isEmpty_nil,List.isEmpty_cons,reduceCtorEq,sizeLine_eq,Nat.reduceLeDiff,Nat.zero_le]|skip)
section
variable {P:Program}{w:World}{K:PySem.W.Frag}{mg:Str->Option Value}{base:Heap}{f:Addr}{fd:FuncData}
def jx:DSp:=λws Q=>∃(ns:List Int) (k:Int),ws = [.scr ns,.val (.int k)]/\0<=k/\∀v:Int,Q (.val (.int v))
theorem zc6(B:Blt mg)(F:Fun K "_law_cell_at" "_law_cell_at" xh f fd):FnOk P w K mg base CX0 1 f fd ["_law_script", "_law_k"] (yh K jx):=by
 refine F.dok zc5 (λws Q h=>?_) (λcdv A outer s H ws Q E hr h=>?_)
 ·obtain⟨ns,k,rfl,_⟩:=h;rfl
 obtain⟨ns,k,rfl,h0,q⟩:=h;refine⟨_,(zg (xa (ye zc2 (zb 1) (DE.dv (zml 0 rfl B.len)) (yd _)) (zh (zw (zoa 0 (zi 1) (λ_ _=>rfl)))) yo) (zh (zw zc))),?_⟩;walk_at "ds"
 split
 ·next c=>
  obtain⟨v,e,_⟩:=zth (xs:=ns) h0 c;exact⟨v,e,q v⟩
 ·exact q 0
def jt:DSp:=λws Q=>∃k:Int,ws = [.val (.int k)]/\∀v:Int,Q (.val (.int v))
theorem zg2(B:Blt mg)(F:Fun K "_law_next" "_law_next" xy f fd):FnOk P w K mg base CX0 1 f fd ["_law_seed"] (yh K jt):=by
 refine F.dok sc__law_next (λws Q h=>?_) (λcdv A outer s H ws Q E hr h=>?_)
 ·obtain⟨k,rfl,_⟩:=h;rfl
 obtain⟨k,rfl,q⟩:=h;refine⟨_,(zg (yu (i:=0) sc__law_next.nd rfl (Or.inl rfl) (zx zks (DE.dv (zx yn (zb 0) (DE.dv zc))) (DE.dv zc))) (zh (zw (zx zks (DE.dv (zx yn (DE.dv (zx yn (DE.dv (zx zcr (zb 0) (zb 0))) (DE.dv (zx zcr (DE.dv zc) (zb 0))))) (DE.dv zc))) (DE.dv zc))))),?_⟩;walk_at "ds";have h1:0<=(k+7919) % 2147483647:=Int.emod_nonneg _ (by decide);have h2:(k+7919) % 2147483647<2147483647:=Int.emod_lt_of_pos _ (by decide);exact⟨by decide,.inl ⟨by omega,by omega⟩,.inl ⟨by omega,by omega⟩,by decide,q _⟩
def zab:DSp:=λws Q=>∃k:Int,ws = [.val (.int k)]/\∀a b c:Int,Q (.new [.int a,.int b,.int c])
theorem zej(B:Blt mg)(F:Fun K "_law_pen_of" "_law_pen_of" xm f fd):FnOk P w K mg base CX0 1 f fd ["_law_cell"] (yh K zab):=by
 refine F.dok sc__law_pen_of (λws Q h=>?_) (λcdv A outer s H ws Q E hr h=>?_)
 ·obtain⟨k,rfl,_⟩:=h;rfl
 obtain⟨k,rfl,q⟩:=h;refine⟨_,(zg (yu (i:=1) sc__law_pen_of.nd rfl (Or.inl rfl) (yt (zn8 rfl) rfl B.max boot_max (zp (zb 0) (zp (DE.dv (zx zdz (DE.dv zc) (zb 0))) yf)))) (zh (zkz (vi (za (zi 1) (za (wo zv9 rfl B.intT boot_int (zp (DE.dv (zi9 zqm (zb 1) (DE.dv (zx zv5 (DE.dv zc) (DE.dv zc))) (yd _))) yf)) (za (zx zks (zb 1) (DE.dv zc)) zm))))))),?_⟩;walk_at "ds";exact⟨⟨by decide,by decide,by decide⟩,by decide,q _ _ _⟩
def zpp:Sp:=λvs H Q _=>∃k:Int,vs = [.int k]/\∀(v:Int) H',Same H H'->Q (.int v) H'
theorem zuv{k:Nat}{x:Str}{ps:List Str}(C:Cal P w K mg base k x ps (yh K jt)):Cal P w K mg base k x ps zpp:=by
 obtain⟨f,fd,F,r⟩:=C;refine⟨f,fd,F.imp λvs H Q E h=>?_,r⟩;obtain⟨k,rfl,q⟩:=h;exact⟨[.val (.int k)],λr=>∃i:Int,r=.val (.int i),.cons (show Rep K H (.int k) _ from .int) .nil,⟨k,rfl,λv=>⟨v,rfl⟩⟩,λv H' r sm rp ⟨i,e⟩=>by subst e;cases (show Rep K H' (.int i) v from rp);exact q i H' sm⟩
theorem zg3(B:Blt mg)(F:Fun K "_law_draw" "_law_draw" xz f fd)(Cd:Cal P w K mg base 1 "_law_next" ["_law_seed"] (yh K jt)):FnOk P w K mg base CX0 2 f fd ["_law_pen", "_law_many"] (yh K vm):=by
 have C__law_next:=zuv Cd;refine zub (F.ok sc__law_draw (λvs H Q E h=>?_) (λcdv A outer s H vs Q E hr h=>?_))
 ·obtain⟨p,m,rfl,_⟩:=h;rfl
 obtain⟨p,m,rfl,hm,hM,⟨a,b,c,hp⟩,q⟩:=h;refine⟨_,(zbj (zvd (zv2 (zsq (zkm zrw (j6 ix_list (pv 0) vy (λ_ _=>rfl)) vy (yd _)) (zp5 (zkm zrx (j6 ix_list (pv 0) vy (λ_ _=>rfl)) vy (yd _))))) (zbj (zdt (i:=2) sc__law_draw.nd rfl (Or.inl rfl) (zhd ziz (j6 ix_list (pv 0) vy (λ_ _=>rfl)) (pv 1))) (zbj (zds (zhd zhl (j6 ix_list (pv 0) vy (λ_ _=>rfl)) (pv 1)) (zga (pv 0) vy zbk)) (zki (zb5 (pv 2))))) zp6) (zbj (zds (zbl C__law_next hr rfl (xv (zhd znl (zbl C__law_next hr rfl (xv (j6 ix_list (pv 0) vy (λ_ _=>rfl)) vz)) vy) vz)) (zga (pv 0) vy zbk)) (zki (zb5 (zhd ziz (zhd zhl (j6 ix_list (pv 0) vy (λ_ _=>rfl)) vy) (pv 1)))))),?_⟩;have hS:SqL K H p [.int a,.int b,.int c]:=SqL.of hp;refine⟨_,rfl,p,_,_,_,rfl,rfl,hS,rfl,rfl,_,rfl,?_⟩;refine zvu (λc1=>?_) (λc1=>?_)
 ·refine⟨_,rfl,p,_,_,_,rfl,rfl,hS,rfl,_,_,rfl,rfl,_,rfl,?_⟩;refine zvu (λc2=>?_) (λc2=>?_)
  ·refine⟨_,rfl,p,_,_,_,rfl,rfl,hS,rfl,_,rfl,_,_,rfl,rfl,hm,?_⟩;refine⟨_,rfl,p,_,_,_,rfl,rfl,hS,rfl,_,rfl,_,_,rfl,rfl,⟨hm,hM⟩,?_⟩;refine⟨_,rfl,p,_,_,_,rfl,rfl,hp,rfl,?_⟩;exact⟨_,rfl,q _ _ (Int.emod_nonneg _ (by omega)) (Int.emod_lt_of_pos _ hm) ⟨a / m,b,c,z9⟩ But.write⟩
  ·refine⟨_,rfl,p,_,_,_,rfl,rfl,hS,rfl,_,rfl,λv1 H1 s1=>⟨_,_,rfl,rfl,_,rfl,λv2 H2 s2=>⟨_,rfl,p,_,_,_,rfl,rfl,s2 _ _ (s1 _ _ hp),rfl,?_⟩⟩⟩;refine⟨_,rfl,p,_,_,_,rfl,rfl,SqL.of z9,rfl,_,_,rfl,rfl,⟨by decide,by decide⟩,_,rfl,_,_,rfl,rfl,hm,?_⟩;exact q _ _ (Int.emod_nonneg _ (by omega)) (Int.emod_lt_of_pos _ hm) ⟨a,b,v2,z9⟩ ((But.of_same (s1.trans s2)).trans But.write)
 ·refine zw8 ?_;refine⟨_,rfl,p,_,_,_,rfl,rfl,hS,rfl,_,rfl,λv1 H1 s1=>⟨_,_,rfl,rfl,_,rfl,λv2 H2 s2=>⟨_,rfl,p,_,_,_,rfl,rfl,s2 _ _ (s1 _ _ hp),rfl,?_⟩⟩⟩;refine⟨_,rfl,p,_,_,_,rfl,rfl,SqL.of z9,rfl,_,_,rfl,rfl,⟨by decide,by decide⟩,_,rfl,_,_,rfl,rfl,hm,?_⟩;exact q _ _ (Int.emod_nonneg _ (by omega)) (Int.emod_lt_of_pos _ hm) ⟨a,b,v2,z9⟩ ((But.of_same (s1.trans s2)).trans But.write)
def zek:DSp:=λws Q=>∃ns:List Int,ws = [.scr ns]/\ns.length<=63/\Q (.val (.bool true))
structure Gp where
 f:Int
 t:Int
 m:Int
 k:Int
def Gp.D(g:Gp):D:=.tuple [.int g.f,.int g.t,.int g.m,.int g.k]
structure Gp.Ok(g:Gp):Prop where
 f1:1<=g.f
 f2:g.f<=1000
 t1:1<=g.t
 t2:g.t<=10
 m1:0<=g.m
 m2:g.m<=1000
 k1:1<=g.k
 k2:g.k<=1000
def gp(g:Gp):Nat->Int
 |0=>min g.f g.k
 |n+1=>min (g.t * gp g n+g.m) g.k
def gpL(g:Gp)(n:Nat):List Int:=(List.range n).map (gp g)
theorem zel(g:Gp)(n:Nat):gpL g (n+1)=gpL g n ++ [gp g n]:=by simp[gpL,List.range_succ]
theorem zrj(g:Gp)(n:Nat):(gpL g n).length=n:=by simp[gpL]
theorem zln(g:Gp){j:Nat}(h:gp g (j+1)=gp g j):∀i,gp g (j+i)=gp g j
 |0=>rfl
 |i+1=>by
  have e:gp g (j+(i+1))=min (g.t * gp g (j+i)+g.m) g.k:=rfl;rw[e,zln g h i];exact h
theorem zf3{g:Gp}(o:g.Ok):∀n,1<=gp g n/\gp g n<=1000
 |0=>by
  have:=o.f1;have:=o.f2;have:=o.k1;have:=o.k2;simp only[gp];omega
 |n+1=>by
  have ih:=zf3 o n;have:=o.t1;have:=o.t2;have:=o.m1;have:=o.k1;have:=o.k2;have h1:1 * 1<=g.t * gp g n:=Int.mul_le_mul o.t1 ih.1 (by decide) (by omega);simp only[gp];omega
theorem atI_end{α:Type}(xs:List α)(x:α):atI (xs ++ [x]) (-1)=some x:=zhh xs x
theorem kc{a b:Int}(h1:0<=a)(h2:a<=1000000000)(h3:0<=b)(h4:b<=1000000000):CMul a b:=.inl ⟨by omega,by omega⟩
def zen:DSp:=λws Q=>∃(g:Gp) (n:Int),ws = [.val g.D,.val (.int n)]/\g.Ok/\n<=10000/\∀j:Nat,1<=j->(j:Int)<=max n 1->(∀i:Nat,j-1<=i->(i:Int)<n->gp g i=gp g (j-1))->Q (.new ((gpL g j).map PyData.int))
theorem zj8(B:Blt mg)(F:Fun K "growing" "growing" wt f fd):FnOk P w K mg base CX0 1 f fd ["gaps", "many"] (yh K zen):=by
 refine F.dok sc_growing (λws Q h=>?_) (λcdv A outer s H ws Q E hr h=>?_)
 ·obtain⟨g,n,rfl,_⟩:=h;rfl
 obtain⟨g,n,rfl,o,hn,q⟩:=h;simp only[Gp.D];refine⟨_,(zg (xq (zi 0) (yv (n:=4) rfl (ze (zf (i:=2) sc_growing.nd rfl (Or.inl rfl)) (ze (zf (i:=3) sc_growing.nd rfl (Or.inl rfl)) (ze (zf (i:=4) sc_growing.nd rfl (Or.inl rfl)) (ze (zf (i:=5) sc_growing.nd rfl (Or.inl rfl)) yj)))))) (zg (zdj (i:=6) sc_growing.nd rfl (Or.inl rfl) (vi (za (yt (zaz rfl) rfl B.min boot_min (zp (zb 2) (zp (zb 5) yf))) zm))) (zg (zoq PassesOwn.never (ye zc2 (DE.dv (yt zbo rfl B.len PySem.boot_len (zp (zb 6) yf))) (zb 1) (yd _)) (zg (yu (i:=7) sc_growing.nd rfl (Or.inl rfl) (yt (zaz rfl) rfl B.min boot_min (zp (DE.dv (zx yn (DE.dv (zx zcr (zb 3) (DE.dv (z0 (zb 6) (jn zc) (λ_ _=>rfl))))) (zb 4))) (zp (zb 5) yf)))) (zg (xa (ye (ja hr) (zb 7) (DE.dv (z0 (zb 6) (jn zc) (λ_ _=>rfl))) (yd _)) (zh zok) yo) (zh (jg 6 (zi 7)))))) (zh (zqv 6))))),?_⟩;walk_at "ds";refine zmo (λm σ=>∃(j:Nat) (u:Option W),σ = [some (.val g.D),some (.val (.int n)),some (.val (.int g.f)),some (.val (.int g.t)),some (.val (.int g.m)),some (.val (.int g.k)),some (.own (.lst ((gpL g (j+1)).map PyData.int))),u]/\((j+1:Nat):Int)<=max n 1/\m=n.toNat-j) _ ⟨0,none,rfl,by omega,rfl⟩ ?_;rintro m σ N ⟨j,u,rfl,hj,rfl⟩ k;walk_at "ds";rw[List.length_map,zrj];have el:atI ((gpL g (j+1)).map PyData.int) (-1)=some (.int (gp g j)):=by rw[zel,List.map_append];exact atI_end _ _
 have bd:=zf3 o j;have:=o.t1;have:=o.t2
 by_cases c:((j+1:Nat):Int)<n
 ·rw[if_pos c];refine⟨_,el,kc (by omega) (by omega) (by omega) (by omega),_,el,?_⟩;have e1:min (g.t * gp g j+g.m) g.k=gp g (j+1):=rfl;rw[e1];walk_at "ds"
  by_cases c2:gp g (j+1)=gp g j
  ·rw[if_pos c2];refine q (j+1) (by omega) hj λi h1 h2=>?_;have:=zln g c2 (i-j);rw[show j+(i-j)=i by omega]at this;exact this
  ·rw[if_neg c2];refine⟨by omega,k (n.toNat-(j+1)) _ (by omega) ⟨j+1,_,(by rw[zel g (j+1),List.map_append];rfl),by omega,rfl⟩⟩
 ·rw[if_neg c];exact q (j+1) (by omega) hj λi h1 h2=>by rw[show i=j+1-1 by omega]
end
section
variable {P:Program}{w:World}{K:PySem.W.Frag}{mg:Str->Option Value}{base:Heap}{f:Addr}{fd:FuncData}
structure Pl where
 g:Gp
 n:Int
 t:Int
def Pl.D(p:Pl):D:=.tuple [p.g.D,.int p.n,.int p.t]
structure Pl.Ok(p:Pl):Prop where
 g:p.g.Ok
 n1:1<=p.n
 n2:p.n<=200
 t1:0<=p.t
 t2:p.t<=400000
def zbc(s:List (Int×Int))(b:Int):Bool:=s.any λr=>decide (r.1<=b/\b<r.2)
def pD(r:Int×Int):D:=.tuple [.int r.1,.int r.2]
def zb1:DSp:=λws Q=>∃(s:List (Int×Int)) (b:Int),ws = [.val (.tuple (s.map pD)),.val (.int b)]/\s.length<=10000/\Q (.val (.bool (zbc s b)))
theorem zg4(B:Blt mg)(F:Fun K "silent_at" "silent_at" xx f fd):FnOk P w K mg base CX0 1 f fd ["story", "beat"] (yh K zb1):=by
 refine F.dok zg1 (λws Q h=>?_) (λcdv A outer s H ws Q E hr h=>?_)
 ·obtain⟨s,b,rfl,_⟩:=h;rfl
 obtain⟨s,b,rfl,hl,q⟩:=h;refine⟨_,(zh (zw (yt (zwa rfl) rfl B.any boot_any (zp (DE.dv (DF.de (jv rfl (N':=["first", "last", "beat"]) (capt:=["beat"]) (k:=2) (js:=[1]) ⟨rfl,by decide,rfl,by decide,(.cons rfl .nil),rfl,(.cons rfl (Or.inl rfl) rfl (Or.inl rfl) .nil),rfl,by decide⟩ (wr (zb 0)) (λ_ _ _ _=>(yv (n:=2) rfl (ze (zf (i:=0) (show List.Nodup (["first", "last", "beat"]:List Str) by decide +kernel) rfl (Or.inl rfl) (Or.inr rfl)) (ze (zf (i:=1) (show List.Nodup (["first", "last", "beat"]:List Str) by decide +kernel) rfl (Or.inl rfl) (Or.inr rfl)) yj)))) (λ_ _ _ _=>qi) (λ_ _ _ _=>(zho zql zc2 (zb 0) (zb 2) (zb 1)))))) yf)))),?_⟩;walk_at "ds";rw[List.length_map];refine⟨by omega,j9 pD (λr=>.bool (decide (r.1<=b/\b<r.2))) (λr hr k hk=>?_) ⟨s.map λr=>decide (r.1<=b/\b<r.2),?_,?_⟩⟩
 ·simp only[pD];walk_at "ds"
  split
  ·next c=>simpa[c]using hk
  ·next c=>simpa[c]using hk
 ·have:=zjd (s.map λr=>decide (r.1<=b/\b<r.2));rw[List.map_map]at this;exact this
 ·rw[List.any_map];exact q
def knL(lim:Int):List Int->Int->List Int
 |[],_=>[]
 |x::xs,b=>if lim<b+x then [] else (b+x)::knL lim xs (b+x)
def kn(p:Pl)(b:Int):List Int:=b::knL (b+p.t) (gpL p.g (p.n.toNat-1)) b
def rn(s:List (Int×Int)):List Int->List Int->List Int×Bool
 |acc,[]=>(acc,false)
 |acc,x::xs=>if zbc s x=true then rn s (acc ++ [x]) xs else (acc ++ [x],true)
def zf4:DSp:=λws Q=>∃(g:Gp) (n:Int),ws = [.val g.D,.val (.int n)]/\g.Ok/\1<=n/\n<=10000/\Q (.val (.int (gp g (n.toNat-1))))
theorem zm9(B:Blt mg)(F:Fun K "gap_at" "gap_at" vr f fd)(C_growing:Cal P w K mg base 1 "growing" ["gaps", "many"] (yh K zen)):FnOk P w K mg base CX0 2 f fd ["gaps", "k"] (yh K zf4):=by
 refine F.dok zm8 (λws Q h=>?_) (λcdv A outer s H ws Q E hr h=>?_)
 ·obtain⟨g,n,rfl,_⟩:=h;rfl
 obtain⟨g,n,rfl,o,h0,hn,q⟩:=h;refine⟨_,(zh (zw (z0 (DE.dv (zq C_growing hr rfl (zn 0 (zn 1 zy)))) (jn zc) (λ_ _=>rfl)))),?_⟩;walk_at "ds";refine⟨g,n,rfl,o,hn,λj h1 h2 h3=>?_⟩;walk_at "ds";have el:atI ((gpL g j).map PyData.int) (-1)=some (.int (gp g (j-1))):=by
  obtain⟨i,rfl⟩:∃i,j=i+1:=⟨j-1,by omega⟩
  rw[zel,List.map_append];exact atI_end _ _
 refine⟨_,el,?_⟩;rw[<-h3 (n.toNat-1) (by omega) (by omega)];exact q
structure Gt where
 f:Int
 r:Int
 t:Int
 m:Int
 n:Int
def Gt.D(g:Gt):D:=.tuple [.int g.f,.int g.r,.int g.t,.int g.m,.int g.n]
structure Gt.Ok(g:Gt):Prop where
 f1:1<=g.f
 f2:g.f<=20
 r1:1<=g.r
 t1:1<=g.t
 t2:g.t<=10
 m1:g.r<=g.m
 m2:g.m<=1000
 n1:1<=g.n
 n2:g.n<=10
inductive Sg where
 |op (k:Int)|sh (u w:Int)|tr (k w:Int)
def Sg.D:Sg->D
 |.op k=>.tuple [.str "open",.int k]
 |.sh u w=>.tuple [.str "shut",.int u,.int w]
 |.tr k w=>.tuple [.str "trying",.int k,.int w]
def Sg.Ok(g:Gt):Sg->Prop
 |.op k=>0<=k/\k<g.f
 |.sh u w=>0<=u/\u<=2000000/\1<=w/\w<=g.m
 |.tr k w=>0<=k/\k<g.n/\1<=w/\w<=g.m
def qt:Sg->Int->Bool×Sg
 |.sh u w,b=>if b<u then (false,.sh u w) else (true,.tr 0 w)
 |s,_=>(true,s)
def heL(g:Gt):Sg->Int->Bool->Sg
 |.op k,b,a=>if a=true then .op 0 else if k+1=g.f then .sh (b+g.r) g.r else .op (k+1)
 |.tr k w,b,a=>if a=true then (if k+1=g.n then .op 0 else .tr (k+1) w) else .sh (b+min (g.t * w) g.m) (min (g.t * w) g.m)
 |.sh u w,_,_=>.sh u w
def Sg.shut:Sg->Bool
 |.sh _ _=>true
 |_=>false
theorem zlo:¬ ((Str.ofString "open")=(Str.ofString "shut")):=by decide +kernel
theorem zlp:¬ ((Str.ofString "trying")=(Str.ofString "shut")):=by decide +kernel
theorem zsf:¬ ((Str.ofString "trying")=(Str.ofString "open")):=by decide +kernel
def ltD(x:Bool×Sg):D:=.tuple [.bool x.1,x.2.D]
theorem zj9{g:Gt}(o:g.Ok):∀{s:Sg}{b:Int},s.Ok g->(qt s b).2.Ok g/\((qt s b).1=true->(qt s b).2.shut=false)
 |.op k,b,h=>⟨h,λ_=>rfl⟩
 |.tr k w,b,h=>⟨h,λ_=>rfl⟩
 |.sh u w,b,h=>by
  have:=o.n1;simp only[qt]
  split
  ·exact⟨h,λz=>by cases z⟩
  ·exact⟨⟨Int.le_refl _,by omega,h.2.2.1,h.2.2.2⟩,λ_=>rfl⟩
theorem zwl{g:Gt}(o:g.Ok){b:Int}(hb:0<=b/\b<=1900000){a:Bool}:∀{s:Sg},s.Ok g->(heL g s b a).Ok g
 |.op k,h=>by
  have:=o.f1;have:=o.r1;have:=o.m1;have:=o.m2;simp only[Sg.Ok]at h;simp only[heL]
  split
  ·exact⟨Int.le_refl _,by omega⟩
  ·split
   ·exact⟨by omega,by omega,by omega,by omega⟩
   ·exact⟨by omega,by omega⟩
 |.tr k w,h=>by
  have:=o.f1;have:=o.m2;have:=o.r1;have:=o.m1;simp only[Sg.Ok]at h;have h1:1 * 1<=g.t * w:=Int.mul_le_mul o.t1 h.2.2.1 (by decide) (by have:=o.t1;omega);simp only[heL]
  split
  ·split
   ·exact⟨Int.le_refl _,by omega⟩
   ·exact⟨by omega,by omega,h.2.2.1,h.2.2.2⟩
  ·exact⟨by omega,by omega,by omega,by omega⟩
 |.sh u w,h=>h
def zlq:DSp:=λws Q=>∃(d:D) (s:Sg) (b:Int),ws = [.val d,.val s.D,.val (.int b)]/\Q (.val (ltD (qt s b)))
theorem zrk(B:Blt mg)(F:Fun K "lets" "lets" jr f fd){t_SHUT:Tok}(G_SHUT:mg "SHUT" = some (.str "shut" t_SHUT)){t_TRYING:Tok}(G_TRYING:mg "TRYING" = some (.str "trying" t_TRYING)):FnOk P w K mg base CX0 1 f fd ["gate", "standing", "beat"] (yh K zlq):=by
 refine F.dok sc_lets (λws Q h=>?_) (λcdv A outer s H ws Q E hr h=>?_)
 ·obtain⟨d,s,b,rfl,_⟩:=h;rfl
 obtain⟨d,s,b,rfl,q⟩:=h
 cases s with
 |op k=>
  simp only[Sg.D];refine⟨_,(zg (xa (ye (zgi hr) (DE.dv (z0 (zb 1) zc (λ_ _=>rfl))) (DE.dv (y0 (d:=.str "shut") (v:=.str "shut") rfl G_SHUT ⟨_,rfl⟩ (λ_=>.str))) (yd _)) (zh (zw (zv (za kr (za (zi 1) zm) yr)))) yo) (zg (xq (zi 1) (yv (n:=3) rfl (ze (zf (i:=3) sc_lets.nd rfl (Or.inl rfl)) (ze (zf (i:=4) sc_lets.nd rfl (Or.inl rfl)) (ze (zf (i:=5) sc_lets.nd rfl (Or.inl rfl)) yj))))) (zg (xa (ye zc2 (zb 2) (zb 4) (yd _)) (zh (zw (zv (za kr (za (zi 1) zm) yr)))) yo) (zh (zw (zv (za kr (za (zv (za (y0 (d:=.str "trying") (v:=.str "trying") rfl G_TRYING ⟨_,rfl⟩ (λ_=>.str)) (za zc (za (zi 5) zm) yr))) zm zbm) yr))))))),?_⟩;walk_at "ds";refine⟨_,yp _ _,?_⟩;walk_at "ds";rw[if_pos zlo];exact q
 |tr k w=>
  simp only[Sg.D];refine⟨_,(zg (xa (ye (zgi hr) (DE.dv (z0 (zb 1) zc (λ_ _=>rfl))) (DE.dv (y0 (d:=.str "shut") (v:=.str "shut") rfl G_SHUT ⟨_,rfl⟩ (λ_=>.str))) (yd _)) (zh (zw (zv (za kr (za (zi 1) zm) yr)))) yo) (zg (xq (zi 1) (yv (n:=3) rfl (ze (zf (i:=3) sc_lets.nd rfl (Or.inl rfl)) (ze (zf (i:=4) sc_lets.nd rfl (Or.inl rfl)) (ze (zf (i:=5) sc_lets.nd rfl (Or.inl rfl)) yj))))) (zg (xa (ye zc2 (zb 2) (zb 4) (yd _)) (zh (zw (zv (za kr (za (zi 1) zm) yr)))) yo) (zh (zw (zv (za kr (za (zv (za (y0 (d:=.str "trying") (v:=.str "trying") rfl G_TRYING ⟨_,rfl⟩ (λ_=>.str)) (za zc (za (zi 5) zm) yr))) zm zbm) yr))))))),?_⟩;walk_at "ds";refine⟨_,yp _ _,?_⟩;walk_at "ds";rw[if_pos zlp];exact q
 |sh u w=>
  simp only[Sg.D];refine⟨_,(zg (xa (ye (zgi hr) (DE.dv (z0 (zb 1) zc (λ_ _=>rfl))) (DE.dv (y0 (d:=.str "shut") (v:=.str "shut") rfl G_SHUT ⟨_,rfl⟩ (λ_=>.str))) (yd _)) (zh (zw (zv (za kr (za (zi 1) zm) yr)))) yo) (zg (xq (zi 1) (yv (n:=3) rfl (ze (zf (i:=3) sc_lets.nd rfl (Or.inl rfl)) (ze (zf (i:=4) sc_lets.nd rfl (Or.inl rfl)) (ze (zf (i:=5) sc_lets.nd rfl (Or.inl rfl)) yj))))) (zg (xa (ye zc2 (zb 2) (zb 4) (yd _)) (zh (zw (zv (za kr (za (zi 1) zm) yr)))) yo) (zh (zw (zv (za kr (za (zv (za (y0 (d:=.str "trying") (v:=.str "trying") rfl G_TRYING ⟨_,rfl⟩ (λ_=>.str)) (za zc (za (zi 5) zm) yr))) zm zbm) yr))))))),?_⟩;walk_at "ds";refine⟨_,yp _ _,?_⟩;walk_at "ds";rw[if_neg (λz=>z trivial)];simp only[qt]at q
  split
  ·next c=>rw[if_pos c]at q;exact q
  ·next c=>rw[if_neg c]at q;exact q
def za1:DSp:=λws Q=>∃(g:Gt) (k b:Int) (a:Bool),ws = [.val g.D,.val (.int k),.val (.int b),.val (.bool a)]/\Q (.val (heL g (.op k) b a).D)
theorem zfd(B:Blt mg)(F:Fun K "heard_open" "heard_open" xr f fd){ga_FIRST_STANDING:Addr}(G_FIRST_STANDING:mg "FIRST_STANDING" = some (.ref ga_FIRST_STANDING))(N_FIRST_STANDING:∀H,Rep K H (.tuple [(.str "open"),(.int 0)]) (.ref ga_FIRST_STANDING)){t_OPEN:Tok}(G_OPEN:mg "OPEN" = some (.str "open" t_OPEN)){t_SHUT:Tok}(G_SHUT:mg "SHUT" = some (.str "shut" t_SHUT)):FnOk P w K mg base CX0 1 f fd ["gate", "bad", "beat", "answered"] (yh K za1):=by
 refine F.dok sc_heard_open (λws Q h=>?_) (λcdv A outer s H ws Q E hr h=>?_)
 ·obtain⟨g,k,b,a,rfl,_⟩:=h;rfl
 obtain⟨g,k,b,a,rfl,q⟩:=h;simp only[Gt.D];refine⟨_,(zg (xq (zi 0) (yv (n:=5) rfl (ze (zf (i:=4) sc_heard_open.nd rfl (Or.inl rfl)) (ze (zf (i:=5) sc_heard_open.nd rfl (Or.inl rfl)) (ze (zf (i:=6) sc_heard_open.nd rfl (Or.inl rfl)) (ze (zf (i:=7) sc_heard_open.nd rfl (Or.inl rfl)) (ze (zf (i:=8) sc_heard_open.nd rfl (Or.inl rfl)) yj))))))) (zg (xa (w6 (zb 3)) (zh (zw (y0 (v:=.ref _) rfl G_FIRST_STANDING rfl N_FIRST_STANDING))) yo) (zg (xa (ye (ja hr) (DE.dv (zx yn (zb 1) (DE.dv zc))) (zb 4) (yd _)) (zh (zw (zv (za (y0 (d:=.str "shut") (v:=.str "shut") rfl G_SHUT ⟨_,rfl⟩ (λ_=>.str)) (za (zx yn (zb 2) (zb 5)) (za (zi 5) zm)))))) yo) (zh (zw (zv (za (y0 (d:=.str "open") (v:=.str "open") rfl G_OPEN ⟨_,rfl⟩ (λ_=>.str)) (za (zx yn (zb 1) (DE.dv zc)) zm)))))))),?_⟩;walk_at "ds";simp only[heL]at q
 cases a with
 |true=>exact q
 |false=>
  walk_at "ds";rw[if_neg (by decide)]at q
  split
  ·next c=>rw[if_pos c]at q;exact q
  ·next c=>rw[if_neg c]at q;exact q
def jy:DSp:=λws Q=>∃(g:Gt) (k w b:Int) (a:Bool),ws = [.val g.D,.val (Sg.tr k w).D,.val (.int b),.val (.bool a)]/\g.Ok/\0<=w/\w<=1000/\Q (.val (heL g (.tr k w) b a).D)
theorem zc7(B:Blt mg)(F:Fun K "heard_trying" "heard_trying" xc f fd){ga_FIRST_STANDING:Addr}(G_FIRST_STANDING:mg "FIRST_STANDING" = some (.ref ga_FIRST_STANDING))(N_FIRST_STANDING:∀H,Rep K H (.tuple [(.str "open"),(.int 0)]) (.ref ga_FIRST_STANDING)){t_TRYING:Tok}(G_TRYING:mg "TRYING" = some (.str "trying" t_TRYING)){t_SHUT:Tok}(G_SHUT:mg "SHUT" = some (.str "shut" t_SHUT)):FnOk P w K mg base CX0 1 f fd ["gate", "standing", "beat", "answered"] (yh K jy):=by
 refine F.dok sc_heard_trying (λws Q h=>?_) (λcdv A outer s H ws Q E hr h=>?_)
 ·obtain⟨g,k,w,b,a,rfl,_⟩:=h;rfl
 obtain⟨g,k,w,b,a,rfl,o,h1,h2,q⟩:=h;have:=o.t1;have:=o.t2;simp only[Gt.D,Sg.D];refine⟨_,(zg (xq (zi 0) (yv (n:=5) rfl (ze (zf (i:=4) sc_heard_trying.nd rfl (Or.inl rfl)) (ze (zf (i:=5) sc_heard_trying.nd rfl (Or.inl rfl)) (ze (zf (i:=6) sc_heard_trying.nd rfl (Or.inl rfl)) (ze (zf (i:=7) sc_heard_trying.nd rfl (Or.inl rfl)) (ze (zf (i:=8) sc_heard_trying.nd rfl (Or.inl rfl)) yj))))))) (zg (xq (zi 1) (yv (n:=3) rfl (ze (zf (i:=9) sc_heard_trying.nd rfl (Or.inl rfl)) (ze (zf (i:=10) sc_heard_trying.nd rfl (Or.inl rfl)) (ze (zf (i:=11) sc_heard_trying.nd rfl (Or.inl rfl)) yj))))) (zg (xa (zdy (w6 (zb 3))) (zg (yu (i:=12) sc_heard_trying.nd rfl (Or.inl rfl) (yt (zaz rfl) rfl B.min boot_min (zp (DE.dv (zx zcr (zb 6) (zb 11))) (zp (zb 7) yf)))) (zh (zw (zv (za (y0 (d:=.str "shut") (v:=.str "shut") rfl G_SHUT ⟨_,rfl⟩ (λ_=>.str)) (za (zx yn (zb 2) (zb 12)) (za (zi 12) zm))))))) yo) (zg (xa (ye (ja hr) (DE.dv (zx yn (zb 10) (DE.dv zc))) (zb 8) (yd _)) (zh (zw (y0 (v:=.ref _) rfl G_FIRST_STANDING rfl N_FIRST_STANDING))) yo) (zh (zw (zv (za (y0 (d:=.str "trying") (v:=.str "trying") rfl G_TRYING ⟨_,rfl⟩ (λ_=>.str)) (za (zx yn (zb 10) (DE.dv zc)) (za (zi 11) zm)))))))))),?_⟩;walk_at "ds";simp only[heL]at q
 cases a with
 |true=>
  walk_at "ds";rw[if_pos rfl]at q
  split
  ·next c=>rw[if_pos c]at q;exact q
  ·next c=>rw[if_neg c]at q;exact q
 |false=>
  walk_at "ds";rw[if_neg (by decide)]at q;exact⟨kc (by omega) (by omega) (by omega) (by omega),q⟩
def zid:DSp:=λws Q=>∃(g:Gt) (s:Sg) (b:Int) (a:Bool),ws = [.val g.D,.val s.D,.val (.int b),.val (.bool a)]/\g.Ok/\s.Ok g/\s.shut=false/\Q (.val (heL g s b a).D)
theorem zpq(B:Blt mg)(F:Fun K "heard" "heard" qm f fd){t_SHUT:Tok}(G_SHUT:mg "SHUT" = some (.str "shut" t_SHUT)){t_OPEN:Tok}(G_OPEN:mg "OPEN" = some (.str "open" t_OPEN))(C_heard_open:Cal P w K mg base 1 "heard_open" ["gate", "bad", "beat", "answered"] (yh K za1))(C_heard_trying:Cal P w K mg base 1 "heard_trying" ["gate", "standing", "beat", "answered"] (yh K jy)):FnOk P w K mg base CX0 2 f fd ["gate", "standing", "beat", "answered"] (yh K zid):=by
 refine F.dok zpo (λws Q h=>?_) (λcdv A outer s H ws Q E hr h=>?_)
 ·obtain⟨g,s,b,a,rfl,_⟩:=h;rfl
 obtain⟨g,s,b,a,rfl,o,os,hs,q⟩:=h;have:=o.m2
 cases s with
 |sh u w=>cases hs
 |op k=>
  refine⟨_,(zg (xa (ye (ja hr) (DE.dv (z0 (zb 1) zc (λ_ _=>rfl))) (DE.dv (y0 (d:=.str "shut") (v:=.str "shut") rfl G_SHUT ⟨_,rfl⟩ (λ_=>.str))) (yd _)) (zh zd1) yo) (zg (xa (ye (ja hr) (DE.dv (z0 (zb 1) zc (λ_ _=>rfl))) (DE.dv (y0 (d:=.str "open") (v:=.str "open") rfl G_OPEN ⟨_,rfl⟩ (λ_=>.str))) (yd _)) (zh (zw (zq C_heard_open hr rfl (zn 0 (ym (z0 (zb 1) zc (λ_ _=>rfl)) (zn 2 (zn 3 zy))))))) yo) (zh (zw (zq C_heard_trying hr rfl (zn 0 (zn 1 (zn 2 (zn 3 zy))))))))),?_⟩;simp only[Sg.D];walk_at "ds";refine⟨_,yp _ _,?_⟩;walk_at "ds";rw[if_neg zlo];refine⟨_,yp _ _,?_⟩;walk_at "ds";exact⟨_,y4 _ _ _,g,k,b,a,rfl,q⟩
 |tr k w=>
  simp only[Sg.Ok]at os;refine⟨_,(zg (xa (ye (ja hr) (DE.dv (z0 (zb 1) zc (λ_ _=>rfl))) (DE.dv (y0 (d:=.str "shut") (v:=.str "shut") rfl G_SHUT ⟨_,rfl⟩ (λ_=>.str))) (yd _)) (zh zd1) yo) (zg (xa (ye (ja hr) (DE.dv (z0 (zb 1) zc (λ_ _=>rfl))) (DE.dv (y0 (d:=.str "open") (v:=.str "open") rfl G_OPEN ⟨_,rfl⟩ (λ_=>.str))) (yd _)) (zh (zw (zq C_heard_open hr rfl (zn 0 (ym (z0 (zb 1) zc (λ_ _=>rfl)) (zn 2 (zn 3 zy))))))) yo) (zh (zw (zq C_heard_trying hr rfl (zn 0 (zn 1 (zn 2 (zn 3 zy))))))))),?_⟩;simp only[Sg.D];walk_at "ds";refine⟨_,yp _ _,?_⟩;walk_at "ds";rw[if_neg zlp];refine⟨_,yp _ _,?_⟩;walk_at "ds";rw[if_neg zsf];exact⟨g,k,w,b,a,rfl,o,by omega,by omega,q⟩
end
section
variable {P:Program}{w:World}{K:PySem.W.Frag}{mg:Str->Option Value}{base:Heap}{f:Addr}{fd:FuncData}
def qg{α:Type}(l:α->List Int)(of:List Int->α)(xs:List α):List α:=(jk (xs.map l)).map of
section
variable {α:Type}{l:α->List Int}{of:List Int->α}
theorem kw(h:∀a,of (l a)=a)(xs:List α):(qg l of xs).Perm xs:=by
 have:=(v6 (xs.map l)).map of;rw[List.map_map]at this
 rwa [show xs.map (of ∘ l)=xs from(List.map_congr_left λa _=>h a).trans (List.map_id _)]at this
theorem zie(h:∀a,of (l a)=a)(xs:List α):(qg l of xs).map l=jk (xs.map l):=by
 unfold qg;rw[List.map_map];refine(List.map_congr_left λt ht=>?_).trans (List.map_id _);obtain⟨a,_,rfl⟩:=List.mem_map.mp ((v6 _).mem_iff.mp ht);simp[h]
theorem zeo(h:∀a,of (l a)=a)(xs:List α):(jk (xs.map l)).map tD=(qg l of xs).map λa=>tD (l a):=by
 rw[<-zie h xs,List.map_map];rfl
theorem zna(h:∀a,of (l a)=a)(xs:List α):((qg l of xs).map l).Pairwise λa b=>¬ b<a:=by
 rw[zie h];exact zd8 _
end
structure Ps where
 a:Int
 p:Int
 c:Int
 f:Int
def Ps.D(u:Ps):D:=.tuple [.int u.a,.int u.p,.int u.c,.int u.f]
structure Ps.Ok(u:Ps):Prop where
 a1:0<=u.a
 a2:u.a<=1000
 p1:1<=u.p
 p2:u.p<=1000
 c1:0<=u.c
 c2:u.c<=10000
 f1:0<=u.f
 f2:u.f<=u.c
structure Cl where
 p:Pl
 u:Ps
 g:Gt
def Cl.D(c:Cl):D:=.tuple [c.p.D,c.u.D,c.g.D]
structure Cl.Ok(c:Cl):Prop where
 p:c.p.Ok
 t:c.p.t<=1000
 u:c.u.Ok
 g:c.g.Ok
structure En where
 d:Int
 n:Int
 b:Int
 t:Int
def En.l(e:En):List Int:=[e.d,e.n,e.b,e.t]
def En.of:List Int->En
 |[d,n,b,t]=>⟨d,n,b,t⟩
 |_=>⟨0,0,0,0⟩
def En.D(e:En):D:=tD e.l
theorem En.of_l(e:En):En.of e.l=e:=rfl
structure Tr where
 n:Int
 b:Int
 t:Int
def Tr.l(e:Tr):List Int:=[e.n,e.b,e.t]
def Tr.of:List Int->Tr
 |[n,b,t]=>⟨n,b,t⟩
 |_=>⟨0,0,0⟩
def Tr.D(e:Tr):D:=tD e.l
theorem Tr.of_l(e:Tr):Tr.of e.l=e:=rfl
structure Sn where
 b:Int
 w:List En
 c:Int
 g:Sg
 k:Int
def Sn.D(s:Sn):D:=.tuple [.int s.b,.tuple (s.w.map En.D),.int s.c,s.g.D,.int s.k]
inductive Wt where
 |non|due (d:Int)|kno|tim|pur
def Wt.D:Wt->D
 |.non=>.none
 |.due d=>.int d
 |.kno=>.str "knocks"
 |.tim=>.str "time"
 |.pur=>.str "purse"
def wdE:Option Bool->D
 |none=>.str "held"
 |some true=>.str "served"
 |some false=>.str "silent"
structure Ev where
 n:Int
 w:Option Bool
 t:Wt
def Ev.D(e:Ev):D:=.tuple [.int e.n,wdE e.w,e.t.D]
def whL(c:Cl)(coins beat begin tries:Int):Wt :=
 if tries=c.p.n then .kno else if begin+c.p.t<beat+gp c.p.g (tries.toNat-1) then .tim else if coins<c.u.p then .pur else .due (beat+gp c.p.g (tries.toNat-1))
def kg(g:Gt)(s:Sg)(b:Int)(snd:Bool):Option Bool×Sg:=if (qt s b).1=true then (some snd,heL g (qt s b).2 b snd) else (none,(qt s b).2)
def zc8(c:Cl)(st:Sn)(g:Sg)(n b t:Int):Wt->Sn
 |.due d=>{ st with g:=g,c:=st.c-c.u.p,w:=st.w ++ [⟨d,n,b,t+1⟩] }
 |_=>{ st with g:=g }
def wz(c:Cl)(st:Sn)(snd:Bool)(n b t:Int):Sn×Ev :=
 if (kg c.g st.g st.b snd).1=some true then ({ st with g:=(kg c.g st.g st.b snd).2 },⟨n,some true,.non⟩)
 else (zc8 c st (kg c.g st.g st.b snd).2 n b t (whL c st.c st.b b (t+1)),⟨n,(kg c.g st.g st.b snd).1,whL c st.c st.b b (t+1)⟩)
def va(c:Cl)(st:Sn):Sn:={ st with c:=min (st.c+1 * c.u.a) c.u.c,k:=st.k+1 }
def wk(c:Cl)(snd:Bool):List Tr->Sn->List Ev->Sn×List Ev
 |[],st,es=>(st,es)
 |r::rs,st,es=>wk c snd rs (wz c st snd r.n r.b r.t).1 (es ++ [(wz c st snd r.n r.b r.t).2])
def vt(c:Cl)(snd:Bool):Nat->Int->Sn->List Ev->Sn×List Ev
 |0,_,st,es=>(st,es)
 |m+1,n,st,es=>vt c snd m (n+1) (wz c (va c st) snd n st.b 0).1 (es ++ [(wz c (va c st) snd n st.b 0).2])
def wg(st:Sn):List Tr:=qg Tr.l Tr.of ((st.w.filter λe=>decide (e.d<=st.b)).map λe=>⟨e.n,e.b,e.t⟩)
def y6(st:Sn):Sn:={ st with w:=st.w.filter λe=>decide (st.b<e.d) }
def vx(c:Cl)(st:Sn)(snd:Bool)(many:Nat):Sn×List Ev :=
 let r1:=wk c snd (wg st) (y6 st) []
 let r2:=vt c snd many st.k r1.1 r1.2
 ({ r2.1 with b:=st.b+1,w:=qg En.l En.of r2.1.w },r2.2)
def zpr(c:Cl):Sn:=⟨0,[],c.u.f,.op 0,0⟩
structure En.Ok(c:Cl)(e:En):Prop where
 d1:0<=e.d
 d2:e.d<=1000000
 t1:1<=e.t
 t2:e.t<c.p.n
structure Sn.Ok(c:Cl)(s:Sn):Prop where
 b1:0<=s.b
 b2:s.b<=900000
 w:∀e∈s.w,e.Ok c
 c1:0<=s.c
 c2:s.c<=10000
 g:s.g.Ok c.g
theorem zuw{g:Gt}(o:g.Ok){s:Sg}(h:s.Ok g){b:Int}(hb:0<=b/\b<=1900000){snd:Bool}:(kg g s b snd).2.Ok g:=by
 have:=zj9 o (s:=s) (b:=b) h;unfold kg
 split
 ·exact zwl o hb this.1
 ·exact this.1
theorem zep(c:Cl)(st:Sn)(snd:Bool)(n b t:Int):(wz c st snd n b t).1.b=st.b/\(wz c st snd n b t).1.k=st.k:=by
 unfold wz
 split
 ·exact⟨rfl,rfl⟩
 ·simp only[zc8]
  split <;> exact⟨rfl,rfl⟩
theorem zav(c:Cl)(st:Sn)(snd:Bool)(n b t:Int):(wz c st snd n b t).1.w.length<=st.w.length+1:=by
 unfold wz
 split
 ·simp
 ·simp only[zc8]
  split <;> simp
theorem zac{c:Cl}(o:c.Ok){st:Sn}(h:st.Ok c){snd:Bool}{n b t:Int}(ht:0<=t)(ht2:t<c.p.n):(wz c st snd n b t).1.Ok c:=by
 have gk:=zuw o.g h.g (b:=st.b) (by have:=h.b1;have:=h.b2;omega) (snd:=snd);unfold wz
 split
 ·exact⟨h.b1,h.b2,h.w,h.c1,h.c2,gk⟩
 ·unfold whL
  split
  ·exact⟨h.b1,h.b2,h.w,h.c1,h.c2,gk⟩
  ·split
   ·exact⟨h.b1,h.b2,h.w,h.c1,h.c2,gk⟩
   ·split
    ·exact⟨h.b1,h.b2,h.w,h.c1,h.c2,gk⟩
    ·have bd:=zf3 o.p.g ((t+1).toNat-1);have:=h.b1;have:=h.b2;have:=h.c1;have:=h.c2;have:=o.u.p1;refine⟨h.b1,h.b2,λe he=>?_,by simp only[zc8];omega,by simp only[zc8];omega,gk⟩;simp only[zc8]at he;rcases List.mem_append.mp he with he|he
     ·exact h.w e he
     ·cases List.mem_singleton.mp he;exact⟨by simp only[];omega,by simp only[];omega,by simp only[];omega,by simp only[];omega⟩
theorem zbd{c:Cl}(o:c.Ok){st:Sn}(h:st.Ok c):(va c st).Ok c:=by
 have:=h.c1;have:=h.c2;have:=o.u.a1;have:=o.u.c1;have:=o.u.c2;exact⟨h.b1,h.b2,h.w,by simp only[va];omega,by simp only[va];omega,h.g⟩
def Tr.Ok(c:Cl)(r:Tr):Prop:=0<=r.t/\r.t<c.p.n
theorem zdp{c:Cl}(o:c.Ok){snd:Bool}:∀(rs:List Tr) (st:Sn) (es:List Ev),(∀r∈rs,r.Ok c)->st.Ok c->(wk c snd rs st es).1.Ok c/\(wk c snd rs st es).1.b=st.b/\(wk c snd rs st es).1.k=st.k/\(wk c snd rs st es).1.w.length<=st.w.length+rs.length/\(wk c snd rs st es).2.length=es.length+rs.length
 |[],st,es,_,h=>⟨h,rfl,rfl,by simp[wk],by simp[wk]⟩
 |r::rs,st,es,hr,h=>by
  obtain⟨h1,h2⟩:=hr r List.mem_cons_self;have tb:=zep c st snd r.n r.b r.t;have tl:=zav c st snd r.n r.b r.t;obtain⟨q1,q2,q3,q4,q5⟩:=zdp o rs (wz c st snd r.n r.b r.t).1 (es ++ [(wz c st snd r.n r.b r.t).2]) (λx hx=>hr x (List.mem_cons_of_mem _ hx)) (zac o h h1 h2);simp only[wk];refine⟨q1,q2.trans tb.1,q3.trans tb.2,?_,?_⟩
  ·rw[List.length_cons];omega
  ·rw[q5];simp;omega
theorem zlr{c:Cl}(o:c.Ok){snd:Bool}:∀(m:Nat) (n:Int) (st:Sn) (es:List Ev),st.Ok c->(vt c snd m n st es).1.Ok c/\(vt c snd m n st es).1.b=st.b/\(vt c snd m n st es).1.k=st.k+m/\(vt c snd m n st es).1.w.length<=st.w.length+m/\(vt c snd m n st es).2.length=es.length+m
 |0,n,st,es,h=>⟨h,rfl,by simp[vt],by simp[vt],by simp[vt]⟩
 |m+1,n,st,es,h=>by
  have n1:=o.p.n1;have tb:=zep c (va c st) snd n st.b 0;have tl:=zav c (va c st) snd n st.b 0;obtain⟨q1,q2,q3,q4,q5⟩:=zlr o m (n+1) (wz c (va c st) snd n st.b 0).1 (es ++ [(wz c (va c st) snd n st.b 0).2]) (zac o (zbd o h) (by decide) (by omega));simp only[vt];have a1:(va c st).b=st.b:=rfl;have a2:(va c st).k=st.k+1:=rfl;have a3:(va c st).w=st.w:=rfl;refine⟨q1,q2.trans tb.1,by rw[q3,tb.2,a2];omega,?_,?_⟩
  ·rw[a3]at tl;omega
  ·rw[q5];simp;omega
def zad:DSp:=λws Q=>∃(u:Ps) (c m:Int),ws = [.val u.D,.val (.int c),.val (.int m)]/\u.Ok/\0<=m/\m<=1000000000/\Q (.val (.int (min (c+m * u.a) u.c)))
theorem zeq(B:Blt mg)(F:Fun K "coins_asked" "coins_asked" xk f fd):FnOk P w K mg base CX0 1 f fd ["purse", "coins", "many"] (yh K zad):=by
 refine F.dok zeh (λws Q h=>?_) (λcdv A outer s H ws Q E hr h=>?_)
 ·obtain⟨u,c,m,rfl,_⟩:=h;rfl
 obtain⟨u,c,m,rfl,o,m1,m2,q⟩:=h;have:=o.a1;have:=o.a2;simp only[Ps.D];refine⟨_,(zh (zw (yt (zaz rfl) rfl B.min boot_min (zp (DE.dv (zx yn (zb 1) (DE.dv (zx zcr (zb 2) (DE.dv (z0 (zb 0) zc (λ_ _=>rfl))))))) (zp (DE.dv (z0 (zb 0) zc (λ_ _=>rfl))) yf))))),?_⟩;walk_at "ds";refine⟨_,yp _ _,?_⟩;walk_at "ds";refine⟨kc (by omega) (by omega) (by omega) (by omega),_,v7 _ _ _ _,?_⟩;walk_at "ds";exact q
def zbe:DSp:=λws Q=>∃(u:Ps) (c:Int),ws = [.val u.D,.val (.int c)]/\Q (.val (.bool (decide (u.p<=c))))
theorem zka(B:Blt mg)(F:Fun K "can_pay" "can_pay" wu f fd):FnOk P w K mg base CX0 1 f fd ["purse", "coins"] (yh K zbe):=by
 refine F.dok zj7 (λws Q h=>?_) (λcdv A outer s H ws Q E hr h=>?_)
 ·obtain⟨u,c,rfl,_⟩:=h;rfl
 obtain⟨u,c,rfl,q⟩:=h;simp only[Ps.D];refine⟨_,(zh (zw (zi9 zqm (zb 1) (DE.dv (z0 (zb 0) zc (λ_ _=>rfl))) (yd _)))),?_⟩;walk_at "ds";refine⟨_,y4 _ _ _,?_⟩;walk_at "ds";exact q
def zae:DSp:=λws Q=>∃(u:Ps) (c:Int) (k:Bool),ws = [.val u.D,.val (.int c),.val (.str (if k=true then "k" else "a"))]/\u.Ok/\Q (.val (.int (if k=true then (if u.p<=c then c-u.p else c) else min (c+1 * u.a) u.c)))
theorem zwm:¬ ((Str.ofString "k")=(Str.ofString "a")):=by decide +kernel
theorem zif(B:Blt mg)(F:Fun K "coins_by" "coins_by" wa f fd){t_ASK:Tok}(G_ASK:mg "ASK" = some (.str "a" t_ASK))(C_coins_asked:Cal P w K mg base 1 "coins_asked" ["purse", "coins", "many"] (yh K zad))(C_can_pay:Cal P w K mg base 1 "can_pay" ["purse", "coins"] (yh K zbe)):FnOk P w K mg base CX0 2 f fd ["purse", "coins", "sign"] (yh K zae):=by
 refine F.dok zic (λws Q h=>?_) (λcdv A outer s H ws Q E hr h=>?_)
 ·obtain⟨u,c,k,rfl,_⟩:=h;rfl
 obtain⟨u,c,k,rfl,o,q⟩:=h;refine⟨_,(zg (xa (ye (ja hr) (zb 2) (DE.dv (y0 (d:=.str "a") (v:=.str "a") rfl G_ASK ⟨_,rfl⟩ (λ_=>.str))) (yd _)) (zh (zw (zq C_coins_asked hr rfl (zn 0 (zn 1 (ym zc zy yr)))))) yo) (zg (xa (w6 (DE.dv (zq C_can_pay hr rfl (zn 0 (zn 1 zy))))) (zh (zw (zx zdz (zb 1) (DE.dv (z0 (zb 0) zc (λ_ _=>rfl)))))) yo) (zh (zw (zi 1))))),?_⟩
 cases k with
 |false=>
  walk_at "ds";exact⟨u,c,1,rfl,o,by decide,by decide,q⟩
 |true=>
  walk_at "ds";rw[if_neg zwm];refine⟨u,c,rfl,?_⟩;simp only[Ps.D];walk_at "ds";rw[if_pos rfl]at q
  by_cases c1:u.p<=c
  ·rw[if_pos c1];rw[if_pos c1]at q;refine⟨_,y4 _ _ _,?_⟩;walk_at "ds";exact q
  ·rw[if_neg c1];rw[if_neg c1]at q;exact q
def zaf:DSp:=λws Q=>∃(c:Cl),ws = [.val c.D]/\Q (.val (zpr c).D)
theorem zig(B:Blt mg)(F:Fun K "first_of" "first_of" wc f fd){ga_FIRST_STANDING:Addr}(G_FIRST_STANDING:mg "FIRST_STANDING" = some (.ref ga_FIRST_STANDING))(N_FIRST_STANDING:∀H,Rep K H (.tuple [(.str "open"),(.int 0)]) (.ref ga_FIRST_STANDING)):FnOk P w K mg base CX0 1 f fd ["caller"] (yh K zaf):=by
 refine F.dok sc_first_of (λws Q h=>?_) (λcdv A outer s H ws Q E hr h=>?_)
 ·obtain⟨c,rfl,_⟩:=h;rfl
 obtain⟨c,rfl,q⟩:=h;simp only[Cl.D,Ps.D];refine⟨_,(zg (xq (zi 0) (yv (n:=3) rfl (ze (zf (i:=1) sc_first_of.nd rfl (Or.inl rfl)) (ze (zf (i:=2) sc_first_of.nd rfl (Or.inl rfl)) (ze (zf (i:=3) sc_first_of.nd rfl (Or.inl rfl)) yj))))) (zh (zw (zv (za zc (za (zv zm) (za (z0 (zb 2) zc (λ_ _=>rfl)) (za (y0 (v:=.ref _) rfl G_FIRST_STANDING rfl N_FIRST_STANDING) (za zc zm yr))) zbm) yr))))),?_⟩;walk_at "ds";refine⟨_,vc _ _ _ _ _,?_⟩;walk_at "ds";exact q
def zer:DSp:=λws Q=>∃(g:Gt) (s:Sg) (b:Int) (snd:Bool),ws = [.val g.D,.val s.D,.val (.int b),.val (.bool snd)]/\g.Ok/\s.Ok g/\Q (.val (.tuple [wdE (kg g s b snd).1,(kg g s b snd).2.D]))
theorem zkb(B:Blt mg)(F:Fun K "knocked" "knocked" wv f fd){t_HELD:Tok}(G_HELD:mg "HELD" = some (.str "held" t_HELD)){t_SERVED:Tok}(G_SERVED:mg "SERVED" = some (.str "served" t_SERVED)){t_SILENT:Tok}(G_SILENT:mg "SILENT" = some (.str "silent" t_SILENT))(C_lets:Cal P w K mg base 1 "lets" ["gate", "standing", "beat"] (yh K zlq))(C_heard:Cal P w K mg base 2 "heard" ["gate", "standing", "beat", "answered"] (yh K zid)):FnOk P w K mg base CX0 3 f fd ["gate", "standing", "beat", "sound"] (yh K zer):=by
 refine F.dok sc_knocked (λws Q h=>?_) (λcdv A outer s H ws Q E hr h=>?_)
 ·obtain⟨g,s,b,snd,rfl,_⟩:=h;rfl
 obtain⟨g,s,b,snd,rfl,o,os,q⟩:=h;have lk:=zj9 o (s:=s) (b:=b) os;refine⟨_,(zg (xq (zq C_lets hr rfl (zn 0 (zn 1 (zn 2 zy)))) (yv (n:=2) rfl (ze (zf (i:=4) sc_knocked.nd rfl (Or.inl rfl)) (ze (zf (i:=5) sc_knocked.nd rfl (Or.inl rfl)) yj)))) (zg (xa (zdy (w6 (zb 4))) (zh (zw (zv (za (y0 (d:=.str "held") (v:=.str "held") rfl G_HELD ⟨_,rfl⟩ (λ_=>.str)) (za (zi 5) zm))))) yo) (zh (zw (zv (za (qa (w6 (zb 3)) (y0 (d:=.str "served") (v:=.str "served") rfl G_SERVED ⟨_,rfl⟩ (λ_=>.str)) (y0 (d:=.str "silent") (v:=.str "silent") rfl G_SILENT ⟨_,rfl⟩ (λ_=>.str))) (za (zq C_heard hr rfl (zn 0 (zn 5 (zn 2 (zn 3 zy))))) zm))))))),?_⟩;walk_at "ds";refine⟨g.D,s,b,rfl,?_⟩;simp only[ltD];walk_at "ds";unfold kg at q
 cases c:(qt s b).1 with
 |false=>
  rw[c]at q;walk_at "ds";exact q
 |true=>
  rw[c,if_pos rfl]at q;walk_at "ds"
  cases snd with
  |true=>
   walk_at "ds";exact⟨g,_,b,true,rfl,o,lk.1,lk.2 c,q⟩
  |false=>
   walk_at "ds";exact⟨g,_,b,false,rfl,o,lk.1,lk.2 c,q⟩
def zbf:DSp:=λws Q=>∃(c:Cl) (co b bg t:Int),ws = [.val c.D,.val (.int co),.val (.int b),.val (.int bg),.val (.int t)]/\c.Ok/\1<=t/\t<=10000/\Q (.val (whL c co b bg t).D)
theorem zkc(B:Blt mg)(F:Fun K "what_of" "what_of" ww f fd)(C_gap_at:Cal P w K mg base 2 "gap_at" ["gaps", "k"] (yh K zf4))(C_can_pay:Cal P w K mg base 1 "can_pay" ["purse", "coins"] (yh K zbe)):FnOk P w K mg base CX0 3 f fd ["caller", "coins", "beat", "begin", "tries"] (yh K zbf):=by
 refine F.dok sc_what_of (λws Q h=>?_) (λcdv A outer s H ws Q E hr h=>?_)
 ·obtain⟨c,co,b,bg,t,rfl,_⟩:=h;rfl
 obtain⟨c,co,b,bg,t,rfl,o,t1,t2,q⟩:=h;simp only[Cl.D,Pl.D];refine⟨_,(zg (xq (zi 0) (yv (n:=3) rfl (ze (yv (n:=3) rfl (ze (zf (i:=5) sc_what_of.nd rfl (Or.inl rfl)) (ze (zf (i:=6) sc_what_of.nd rfl (Or.inl rfl)) (ze (zf (i:=7) sc_what_of.nd rfl (Or.inl rfl)) yj)))) (ze (zf (i:=8) sc_what_of.nd rfl (Or.inl rfl)) (ze (zf (i:=9) sc_what_of.nd rfl (Or.inl rfl)) yj))))) (zg (xa (ye (ja hr) (zb 4) (zb 6) (yd _)) (zh (zw y9)) yo) (zg (yu (i:=10) sc_what_of.nd rfl (Or.inl rfl) (zx yn (zb 2) (DE.dv (zq C_gap_at hr rfl (zn 5 (zn 4 zy)))))) (zg (xa (ye zmk (zb 10) (DE.dv (zx yn (zb 3) (zb 7))) (yd _)) (zh (zw y9)) yo) (zg (xa (zdy (w6 (DE.dv (zq C_can_pay hr rfl (zn 8 (zn 1 zy)))))) (zh (zw y9)) yo) (zh (zw (zi 10)))))))),?_⟩;walk_at "ds";unfold whL at q
 by_cases c1:t=c.p.n
 ·rw[if_pos c1];rw[if_pos c1]at q;exact q
 ·rw[if_neg c1];rw[if_neg c1]at q;refine⟨c.p.g,t,rfl,o.p.g,t1,t2,?_⟩;walk_at "ds"
  by_cases c2:bg+c.p.t<b+gp c.p.g (t.toNat-1)
  ·rw[if_pos c2];rw[if_pos c2]at q;exact q
  ·rw[if_neg c2];rw[if_neg c2]at q;refine⟨c.u,co,rfl,?_⟩;walk_at "ds"
   by_cases c3:c.u.p<=co
   ·rw[if_neg (by omega)];rw[if_neg (by omega)]at q;exact q
   ·rw[if_pos (by omega)];rw[if_pos (by omega)]at q;exact q
def trD(r:Sn×Ev):D:=.tuple [r.1.D,r.2.D]
def zih:DSp:=λws Q=>∃(c:Cl) (st:Sn) (snd:Bool) (n b t:Int),ws = [.val c.D,.val st.D,.val (.bool snd),.val (.int n),.val (.int b),.val (.int t)]/\c.Ok/\st.Ok c/\0<=t/\t<c.p.n/\st.w.length<=10000/\Q (.val (trD (wz c st snd n b t)))
theorem zls:¬ ((Str.ofString "held")=(Str.ofString "served")):=by decide +kernel
theorem zlt:¬ ((Str.ofString "silent")=(Str.ofString "served")):=by decide +kernel
theorem zps(B:Blt mg)(F:Fun K "tried" "tried" qo f fd){t_SERVED:Tok}(G_SERVED:mg "SERVED" = some (.str "served" t_SERVED)){t_KNOCK:Tok}(G_KNOCK:mg "KNOCK" = some (.str "k" t_KNOCK))(C_coins_by:Cal P w K mg base 2 "coins_by" ["purse", "coins", "sign"] (yh K zae))(C_knocked:Cal P w K mg base 3 "knocked" ["gate", "standing", "beat", "sound"] (yh K zer))(C_what_of:Cal P w K mg base 3 "what_of" ["caller", "coins", "beat", "begin", "tries"] (yh K zbf)):FnOk P w K mg base CX0 4 f fd ["caller", "standing", "sound", "number", "begin", "tries"] (yh K zih):=by
 refine F.dok sc_tried (λws Q h=>?_) (λcdv A outer s H ws Q E hr h=>?_)
 ·obtain⟨c,st,snd,n,b,t,rfl,_⟩:=h;rfl
 obtain⟨c,st,snd,n,b,t,rfl,o,os,t1,t2,hl,q⟩:=h;have n2:=o.p.n2;simp only[Sn.D,Cl.D];refine⟨_,(zg (xq (zi 1) (yv (n:=5) rfl (ze (zf (i:=6) sc_tried.nd rfl (Or.inl rfl)) (ze (zf (i:=7) sc_tried.nd rfl (Or.inl rfl)) (ze (zf (i:=8) sc_tried.nd rfl (Or.inl rfl)) (ze (zf (i:=9) sc_tried.nd rfl (Or.inl rfl)) (ze (zf (i:=10) sc_tried.nd rfl (Or.inl rfl)) yj))))))) (zg (xq (zq C_knocked hr rfl (ym (z0 (zb 0) zc (λ_ _=>rfl)) (zn 9 (zn 6 (zn 2 zy))))) (yv (n:=2) rfl (ze (zf (i:=11) sc_tried.nd rfl (Or.inl rfl)) (ze (zf (i:=9) sc_tried.nd rfl (Or.inl rfl)) yj)))) (zg (xa (ye (ja hr) (zb 11) (DE.dv (y0 (d:=.str "served") (v:=.str "served") rfl G_SERVED ⟨_,rfl⟩ (λ_=>.str))) (yd _)) (zh (zw (zv (za (zv (za (zi 6) (za (zi 7) (za (zi 8) (za (zi 9) (za (zi 10) zm)))))) (za (zv (za (zi 3) (za (zi 11) (za za5 zm yr)))) zm zbm) zbm)))) yo) (zg (yu (i:=12) sc_tried.nd rfl (Or.inl rfl) (zq C_what_of hr rfl (zn 0 (zn 8 (zn 6 (zn 4 (ym (zx yn (zb 5) (DE.dv zc)) zy))))))) (zg (xa (zdy (w6 (DE.dv (zgj (n := "str") zsb rfl B.isinstance boot_isinstance (zb 12) rfl B.strT boot_str)))) (zg (yu (i:=8) sc_tried.nd rfl (Or.inl rfl) (zq C_coins_by hr rfl (ym (z0 (zb 0) zc (λ_ _=>rfl)) (zn 8 (ym (y0 (d:=.str "k") (v:=.str "k") rfl G_KNOCK ⟨_,rfl⟩ (λ_=>.str)) zy))))) (zh (yu (i:=7) sc_tried.nd rfl (Or.inl rfl) (zx yn (zb 7) (DE.dv (zv (za (zv (za (zi 12) (za (zi 3) (za (zi 4) (za (zx yn (zb 5) (DE.dv zc)) zm))))) zm zbm))))))) yo) (zh (zw (zv (za (zv (za (zi 6) (za (zi 7) (za (zi 8) (za (zi 9) (za (zi 10) zm)))))) (za (zv (za (zi 3) (za (zi 11) (za (zi 12) zm)))) zm zbm) zbm))))))))),?_⟩;walk_at "ds";refine⟨_,v7 _ _ _ _,?_⟩;refine⟨c.g,st.g,st.b,snd,rfl,o.g,os.g,?_⟩;walk_at "ds";unfold wz at q;have go:∀w:Option Bool,(kg c.g st.g st.b snd).1=w->w≠some true->zbf [.val c.D,.val (.int st.c),.val (.int st.b),.val (.int b),.val (.int (t+1))] λr=>r=.val (whL c st.c st.b b (t+1)).D:=λw _ _=>⟨c,st.c,st.b,b,t+1,rfl,o,by omega,by omega,rfl⟩
 cases e:(kg c.g st.g st.b snd).1 with
 |none=>
  rw[e,if_neg (by decide)]at q;simp only[wdE];walk_at "ds";rw[if_neg zls];refine⟨c,st.c,st.b,b,t+1,rfl,o,by omega,by omega,?_⟩
  cases ew:whL c st.c st.b b (t+1) with
  |due d=>
   rw[ew]at q;simp only[Wt.D];walk_at "ds";refine⟨_,y4 _ _ _,?_⟩;refine⟨c.u,st.c,true,rfl,o.u,?_⟩;walk_at "ds";have hp:c.u.p<=st.c:=by
    unfold whL at ew
    split at ew
    ·cases ew
    ·split at ew
     ·cases ew
     ·split at ew
      ·cases ew
      ·omega
   rw[if_pos hp];rw[List.length_map];refine⟨by omega,?_⟩;simp only[trD,zc8,Sn.D,Ev.D,Wt.D,wdE]at q;rw[List.map_append]at q;exact q
  |non=>
   rw[ew]at q;simp only[Wt.D];exfalso;unfold whL at ew
   split at ew
   ·cases ew
   ·split at ew
    ·cases ew
    ·split at ew <;> cases ew
  |kno=>rw[ew]at q;simp only[Wt.D];walk_at "ds";exact q
  |tim=>rw[ew]at q;simp only[Wt.D];walk_at "ds";exact q
  |pur=>rw[ew]at q;simp only[Wt.D];walk_at "ds";exact q
 |some w=>
  cases w with
  |true=>
   rw[e,if_pos rfl]at q;simp only[wdE];walk_at "ds";exact q
  |false=>
   rw[e,if_neg (by decide)]at q;simp only[wdE];walk_at "ds";rw[if_neg zlt];refine⟨c,st.c,st.b,b,t+1,rfl,o,by omega,by omega,?_⟩
   cases ew:whL c st.c st.b b (t+1) with
   |due d=>
    rw[ew]at q;simp only[Wt.D];walk_at "ds";refine⟨_,y4 _ _ _,?_⟩;refine⟨c.u,st.c,true,rfl,o.u,?_⟩;walk_at "ds";have hp:c.u.p<=st.c:=by
     unfold whL at ew
     split at ew
     ·cases ew
     ·split at ew
      ·cases ew
      ·split at ew
       ·cases ew
       ·omega
    rw[if_pos hp];rw[List.length_map];refine⟨by omega,?_⟩;simp only[trD,zc8,Sn.D,Ev.D,Wt.D,wdE]at q;rw[List.map_append]at q;exact q
   |non=>
    rw[ew]at q;simp only[Wt.D];exfalso;unfold whL at ew
    split at ew
    ·cases ew
    ·split at ew
     ·cases ew
     ·split at ew <;> cases ew
   |kno=>rw[ew]at q;simp only[Wt.D];walk_at "ds";exact q
   |tim=>rw[ew]at q;simp only[Wt.D];walk_at "ds";exact q
   |pur=>rw[ew]at q;simp only[Wt.D];walk_at "ds";exact q
def zii:DSp:=λws Q=>∃(c:Cl) (st:Sn),ws = [.val c.D,.val st.D]/\c.Ok/\Q (.val (va c st).D)
theorem zpt(B:Blt mg)(F:Fun K "asked" "asked" qp f fd){t_ASK:Tok}(G_ASK:mg "ASK" = some (.str "a" t_ASK))(C_coins_by:Cal P w K mg base 2 "coins_by" ["purse", "coins", "sign"] (yh K zae)):FnOk P w K mg base CX0 3 f fd ["caller", "standing"] (yh K zii):=by
 refine F.dok sc_asked (λws Q h=>?_) (λcdv A outer s H ws Q E hr h=>?_)
 ·obtain⟨c,st,rfl,_⟩:=h;rfl
 obtain⟨c,st,rfl,o,q⟩:=h;simp only[Sn.D,Cl.D];refine⟨_,(zg (xq (zi 1) (yv (n:=5) rfl (ze (zf (i:=2) sc_asked.nd rfl (Or.inl rfl)) (ze (zf (i:=3) sc_asked.nd rfl (Or.inl rfl)) (ze (zf (i:=4) sc_asked.nd rfl (Or.inl rfl)) (ze (zf (i:=5) sc_asked.nd rfl (Or.inl rfl)) (ze (zf (i:=6) sc_asked.nd rfl (Or.inl rfl)) yj))))))) (zh (zw (zv (za (zi 2) (za (zi 3) (za (zq C_coins_by hr rfl (ym (z0 (zb 0) zc (λ_ _=>rfl)) (zn 4 (ym (y0 (d:=.str "a") (v:=.str "a") rfl G_ASK ⟨_,rfl⟩ (λ_=>.str)) zy)))) (za (zi 5) (za (zx yn (zb 6) (DE.dv zc)) zm))))))))),?_⟩;walk_at "ds";refine⟨_,y4 _ _ _,?_⟩;exact⟨c.u,st.c,false,rfl,o.u,q⟩
end
section
variable {P:Program}{w:World}{K:PySem.W.Frag}{mg:Str->Option Value}{base:Heap}{f:Addr}{fd:FuncData}
def stD(r:Sn×List Ev):D:=.tuple [r.1.D,.tuple (r.2.map Ev.D)]
def zes:DSp:=λws Q=>∃(c:Cl) (st:Sn) (snd:Bool) (m:Nat),ws = [.val c.D,.val st.D,.val (.bool snd),.val (.int m)]/\c.Ok/\st.Ok c/\st.w.length<=24/\m<=8/\(0<=st.k/\st.k<=1000000)/\Q (.val (stD (vx c st snd m)))
theorem zkd(B:Blt mg)(F:Fun K "stepped" "stepped" wx f fd)(C_tried:Cal P w K mg base 4 "tried" ["caller", "standing", "sound", "number", "begin", "tries"] (yh K zih))(C_asked:Cal P w K mg base 3 "asked" ["caller", "standing"] (yh K zii)):FnOk P w K mg base CX0 5 f fd ["caller", "standing", "sound", "many"] (yh K zes):=by
 refine F.dok sc_stepped (λws Q h=>?_) (λcdv A outer s H ws Q E hr h=>?_)
 ·obtain⟨c,st,snd,m,rfl,_⟩:=h;rfl
 obtain⟨c,st,snd,m,rfl,o,os,hl,hm,hk,q⟩:=h;simp only[Sn.D];refine⟨_,(zg (xq (zi 1) (yv (n:=5) rfl (ze (zf (i:=4) sc_stepped.nd rfl (Or.inr rfl)) (ze (zf (i:=5) sc_stepped.nd rfl (Or.inl rfl)) (ze (zf (i:=6) sc_stepped.nd rfl (Or.inl rfl)) (ze (zf (i:=7) sc_stepped.nd rfl (Or.inl rfl)) (ze (zf (i:=8) sc_stepped.nd rfl (Or.inl rfl)) yj))))))) (zg (yu (i:=9) sc_stepped.nd rfl (Or.inl rfl) (DF.de (zbn zgw rfl B.sorted boot_sorted (zp (DE.dv (DF.de (jv rfl (N':=["at", "number", "begin", "tries", "beat"]) (capt:=["beat"]) (k:=4) (js:=[4]) ⟨rfl,by decide,rfl,by decide,(.cons rfl .nil),rfl,(.cons rfl (Or.inl rfl) rfl (Or.inl rfl) .nil),rfl,by decide⟩ (wr (zb 5)) (λ_ _ _ _=>(yv (n:=4) rfl (ze (zf (i:=0) (show List.Nodup (["at", "number", "begin", "tries", "beat"]:List Str) by decide +kernel) rfl (Or.inl rfl) (Or.inr rfl)) (ze (zf (i:=1) (show List.Nodup (["at", "number", "begin", "tries", "beat"]:List Str) by decide +kernel) rfl (Or.inl rfl) (Or.inr rfl)) (ze (zf (i:=2) (show List.Nodup (["at", "number", "begin", "tries", "beat"]:List Str) by decide +kernel) rfl (Or.inl rfl) (Or.inr rfl)) (ze (zf (i:=3) (show List.Nodup (["at", "number", "begin", "tries", "beat"]:List Str) by decide +kernel) rfl (Or.inl rfl) (Or.inr rfl)) yj)))))) (λ_ _ _ _=>(vk (ye zql (zb 0) (zb 4) (yd _)))) (λ_ _ _ _=>(zv (za (zi 1) (za (zi 2) (za (zi 3) zm)))))))) yf)))) (zg (yu (i:=10) sc_stepped.nd rfl (Or.inl rfl) (zv (za (zi 4) (za (wo ku rfl B.tupleT boot_tuple (zp (DE.dv (DF.de (jv rfl (N':=["entry", "beat"]) (capt:=["beat"]) (k:=1) (js:=[4]) ⟨rfl,by decide,rfl,by decide,(.cons rfl .nil),rfl,(.cons rfl (Or.inl rfl) rfl (Or.inl rfl) .nil),rfl,by decide⟩ (wr (zb 5)) (λ_ _ _ _=>(zf (i:=0) (show List.Nodup (["entry", "beat"]:List Str) by decide +kernel) rfl (Or.inl rfl) (Or.inr rfl))) (λ_ _ _ _=>(vk (ye zmk (DE.dv (z0 (zb 0) zc (λ_ _=>rfl))) (zb 1) (yd _)))) (λ_ _ _ _=>(zi 0))))) yf)) (za (zi 6) (za (zi 7) (za (zi 8) zm))))))) (zg (zdj (i:=11) sc_stepped.nd rfl (Or.inl rfl) (vi zm)) (zg (qw PassesOwn.never rfl (zb8 (zi 9)) (yv (n:=3) rfl (ze (zf (i:=12) sc_stepped.nd rfl (Or.inl rfl)) (ze (zf (i:=13) sc_stepped.nd rfl (Or.inl rfl)) (ze (zf (i:=14) sc_stepped.nd rfl (Or.inl rfl)) yj)))) (zg (xq (zq C_tried hr rfl (zn 0 (zn 10 (zn 2 (zn 12 (zn 13 (zn 14 zy))))))) (yv (n:=2) rfl (ze (zf (i:=10) sc_stepped.nd rfl (Or.inl rfl)) (ze (zf (i:=15) sc_stepped.nd rfl (Or.inl rfl)) yj)))) (zh (jg 11 (zi 15))))) (zg (qw PassesOwn.never rfl (zmm rfl B.range (za (zi 8) (za (zx yn (zb 8) (zb 3)) zm))) (zf (i:=12) sc_stepped.nd rfl (Or.inl rfl)) (zg (xq (zq C_tried hr rfl (zn 0 (ym (zq C_asked hr rfl (zn 0 (zn 10 zy))) (zn 2 (zn 12 (zn 4 (ym zc zy yr))))))) (yv (n:=2) rfl (ze (zf (i:=10) sc_stepped.nd rfl (Or.inl rfl)) (ze (zf (i:=15) sc_stepped.nd rfl (Or.inl rfl)) yj)))) (zh (jg 11 (zi 15))))) (zh (zw (zv (za (zx yn (DE.dv (zv (za (zx yn (zb 4) (DE.dv zc)) (za (wo ku rfl B.tupleT boot_tuple (zp (DE.dv (DF.de (zbn zgw rfl B.sorted boot_sorted (zp (DE.dv (z0 (zb 10) zc (λ_ _=>rfl))) yf)))) yf)) zm)))) (DE.dv (zhp (zb 10) (zdh zc) zkv))) (za (wo ku rfl B.tupleT boot_tuple (zp (zb 11) yf)) zm))))))))))),?_⟩
 walk_at "ds";rw[List.length_map];refine⟨by omega,vo En.D (λe=>if e.d<=st.b then some (Tr.D ⟨e.n,e.b,e.t⟩) else none) (λe he k hk=>?_) ?_⟩
 ·simp only[En.D,tD,En.l,List.map_cons,List.map_nil]at hk ⊢;walk_at "ds"
  split
  ·next c=>rw[if_pos c]at hk;walk_at "ds";exact hk
  ·next c=>rw[if_neg c]at hk;exact hk
 ·have e1:st.w.filterMap (λe=>if e.d<=st.b then some (Tr.D ⟨e.n,e.b,e.t⟩) else none)=(((st.w.filter λe=>decide (e.d<=st.b)).map λe=>(⟨e.n,e.b,e.t⟩:Tr)).map Tr.l).map tD:=by
   rw[List.map_map,List.map_map];generalize st.w=w
   induction w with
   |nil=>rfl
   |cons x w ih=>
    rw[List.filterMap_cons,List.filter_cons]
    by_cases z:x.d<=st.b
    ·rw[if_pos z,if_pos (decide_eq_true z),ih];rfl
    ·rw[if_neg z,if_neg (by simpa using z),ih]
  rw[e1];refine⟨by simp only[List.length_map];have:=List.length_filter_le (λe=>decide (e.d<=st.b)) st.w;omega,.inr ⟨_,rfl,λt ht=>?_,?_⟩⟩
  ·obtain⟨x,_,rfl⟩:=List.mem_map.mp ht;simp[Tr.l]
  rw[zeo Tr.of_l];walk_at "ds";refine⟨by omega,vo En.D (λe=>if st.b<e.d then some e.D else none) (λe he k hk=>?_) ?_⟩
  ·simp only[En.D,tD,En.l,List.map_cons,List.map_nil]at hk ⊢;walk_at "ds";refine⟨_,yp _ _,?_⟩;walk_at "ds"
   split
   ·next c=>rw[if_pos c]at hk;exact hk
   ·next c=>rw[if_neg c]at hk;exact hk
  ·have e2:st.w.filterMap (λe=>if st.b<e.d then some e.D else none)=(st.w.filter λe=>decide (st.b<e.d)).map En.D:=by
    generalize st.w=w
    induction w with
    |nil=>rfl
    |cons x w ih=>
     rw[List.filterMap_cons,List.filter_cons]
     by_cases z:st.b<x.d
     ·rw[if_pos z,if_pos (decide_eq_true z),ih];rfl
     ·rw[if_neg z,if_neg (by simpa using z),ih]
   rw[e2];walk_at "ds";have l1:(st.w.filter λe=>decide (st.b<e.d)).length<=st.w.length:=List.length_filter_le _ _;have os0:(y6 st).Ok c:=⟨os.b1,os.b2,λe he=>os.w e (List.mem_filter.mp he).1,os.c1,os.c2,os.g⟩
   have hdue:∀r∈wg st,r.Ok c:=λr hr=>by
    have:=(kw Tr.of_l _).mem_iff.mp hr;obtain⟨e,he,rfl⟩:=List.mem_map.mp this;have:=os.w e (List.mem_filter.mp he).1;exact⟨by have:=this.t1;simp only[];omega,this.t2⟩
   have ldue:(wg st).length<=st.w.length:=by
    unfold wg;rw[(kw Tr.of_l _).length_eq,List.length_map];exact List.length_filter_le _ _
   obtain⟨f1,f2,f3,f4,f5⟩:=zdp o (snd:=snd) (wg st) (y6 st) [] hdue os0;rw[List.length_nil,Nat.zero_add]at f5;have q':Q (.val (stD (let r2:=vt c snd m st.k (wk c snd (wg st) (y6 st) []).1 (wk c snd (wg st) (y6 st) []).2;({ r2.1 with b:=st.b+1,w:=qg En.l En.of r2.1.w },r2.2)))):=q;clear q;have lr:(y6 st).w.length<=st.w.length:=l1;refine wj (λds σ=>∃(rs:List Tr) (s1:Sn) (es:List Ev) (u10 u11 u12 u13:Option W),ds=rs.map (λa=>tD (Tr.l a))/\σ = [some (.val c.D),some (.val st.D),some (.val (.bool snd)),some (.val (.int m)),some (.val (.int st.b)),some (.val (.tuple (st.w.map En.D))),some (.val (.int st.c)),some (.val st.g.D),some (.val (.int st.k)),some (.val (.list ((wg st).map λa=>tD (Tr.l a)))),some (.val s1.D),some (.own (.lst (es.map Ev.D))),u10,u11,u12,u13]/\s1.Ok c/\(∀r∈rs,r.Ok c)/\s1.w.length+rs.length<=50/\es.length+rs.length<=50/\wk c snd rs s1 es=wk c snd (wg st) (y6 st) []) ?_ ?_ ⟨wg st,y6 st,[],none,none,none,none,rfl,rfl,os0,hdue,by omega,by simp only[List.length_nil];omega,rfl⟩
   ·intro d ds σ N zz k;refine gg λG zk=>?_;obtain⟨rs,s1,es,u10,u11,u12,u13,e,zs,o1,hr1,w1,w2,ed⟩:=zz;refine zk ?_;clear zk;subst zs
    cases rs with
    |nil=>cases e
    |cons r rs=>
     cases e;simp only[tD,Tr.l,List.map_cons,List.map_nil];walk_at "ds";rw[List.length_cons]at w1 w2;have hr0:=hr1 r List.mem_cons_self;refine⟨c,s1,snd,r.n,r.b,r.t,rfl,o,o1,hr0.1,hr0.2,by omega,?_⟩;simp only[trD];walk_at "ds";rw[List.length_map];have tl:=zav c s1 snd r.n r.b r.t;refine⟨by omega,k _ ⟨rs,(wz c s1 snd r.n r.b r.t).1,es ++ [(wz c s1 snd r.n r.b r.t).2],_,_,_,_,rfl,(by rw[List.map_append];rfl),zac o o1 hr0.1 hr0.2,λx hx=>hr1 x (List.mem_cons_of_mem _ hx),by omega,by simp;omega,ed⟩⟩
   ·intro σ zz;refine gg λG zk=>?_;obtain⟨rs,s1,es,u10,u11,u12,u13,e,zs,o1,hr1,w1,w2,ed⟩:=zz;refine zk ?_;clear zk;subst zs
    cases rs with
    |cons r rs=>cases e
    |nil=>
     rw[<-ed]at q' f1 f2 f3 f4 f5;simp only[wk]at q' f1 f2 f3 f4 f5;clear ed e hr1;walk_at "ds";refine⟨by omega,?_⟩;rw[show(st.k+(m:Int)-st.k).toNat=m by omega];refine wj (λds σ=>∃(j:Nat) (n:Int) (s2:Sn) (es2:List Ev) (u10 u11 u12 u13:Option W),ds=y3 n j/\σ = [some (.val c.D),some (.val st.D),some (.val (.bool snd)),some (.val (.int m)),some (.val (.int st.b)),some (.val (.tuple (st.w.map En.D))),some (.val (.int st.c)),some (.val st.g.D),some (.val (.int st.k)),some (.val (.list ((wg st).map λa=>tD (Tr.l a)))),some (.val s2.D),some (.own (.lst (es2.map Ev.D))),u10,u11,u12,u13]/\s2.Ok c/\s2.b=st.b/\s2.w.length+j<=60/\es2.length+j<=60/\vt c snd j n s2 es2=vt c snd m st.k s1 es) ?_ ?_ ⟨m,st.k,s1,es,_,_,_,_,rfl,rfl,o1,f2,by omega,by omega,rfl⟩
     ·intro d ds σ N zz k;refine gg λG zk=>?_;obtain⟨j,n,s2,es2,u10,u11,u12,u13,e,zs,o2,eb,w3,w4,ed⟩:=zz;refine zk ?_;clear zk;subst zs
      cases j with
      |zero=>cases e
      |succ j=>
       rw[vf]at e
       cases e;walk_at "ds";refine⟨c,s2,rfl,o,?_⟩;have n1:=o.p.n1;refine⟨c,va c s2,snd,n,st.b,0,rfl,o,zbd o o2,by decide,by omega,by show s2.w.length<=_;omega,?_⟩;simp only[trD];walk_at "ds";rw[List.length_map];have tl:=zav c (va c s2) snd n st.b 0;have a3:(va c s2).w=s2.w:=rfl;rw[a3]at tl;have tb:=zep c (va c s2) snd n st.b 0;simp only[vt]at ed;rw[eb]at ed;refine⟨by omega,k _ ⟨j,n+1,(wz c (va c s2) snd n st.b 0).1,es2 ++ [(wz c (va c s2) snd n st.b 0).2],_,_,_,_,rfl,(by rw[List.map_append];rfl),zac o (zbd o o2) (by decide) (by omega),tb.1.trans eb,by omega,by simp;omega,ed⟩⟩
     ·intro σ zz;refine gg λG zk=>?_;obtain⟨j,n,s2,es2,u10,u11,u12,u13,e,zs,o2,eb,w3,w4,ed⟩:=zz;refine zk ?_;clear zk;subst zs
      cases j with
      |succ j=>rw[vf]at e;cases e
      |zero=>
       rw[<-ed]at q';simp only[vt]at q';simp only[Sn.D];walk_at "ds";refine⟨_,y4 _ _ _,?_⟩;refine⟨by rw[List.length_map];omega,.inr ⟨s2.w.map En.l,by rw[List.map_map];rfl,λt ht=>?_,?_⟩⟩
       ·obtain⟨x,_,rfl⟩:=List.mem_map.mp ht;simp[En.l]
       ·rw[zeo En.of_l];walk_at "ds";rw[zct _ (by decide),show(2:Int).toNat=2 from rfl];simp only[List.drop_succ_cons,List.drop_zero];refine⟨by show(2+3:Nat)<=_;decide,q'⟩
end
section
variable {P:Program}{w:World}{K:PySem.W.Frag}{mg:Str->Option Value}{base:Heap}{f:Addr}{fd:FuncData}
theorem dseq_by{t R:DTS}{Dn:jf}{σ:DSt}(P:DSt->Prop)(h:∀N:DSt->Prop,(∀σ',P σ'->N σ')->t { Dn with nx:=N } σ)(k:∀σ',P σ'->R Dn σ'):zoj t R Dn σ:=h _ k
structure Pa(c:Cl)(st:Sn):Prop where
 ok:st.Ok c
 lo:∀e∈st.w,st.b<=e.d
 so:(st.w.map En.l).Pairwise λa b=>¬ b<a
 k0:0<=st.k
theorem zrl{α:Type}{l:α->List Int}{of:List Int->α}(h:∀a,of (l a)=a){xs:List α}(hs:(xs.map l).Pairwise λa b=>¬ b<a):qg l of xs=xs:=by
 unfold qg;rw[<-za9 (List.Perm.refl _) hs,List.map_map];exact(List.map_congr_left λa _=>h a).trans (List.map_id _)
def zux(st:Sn):List Tr:=(st.w.filter λe=>decide (e.d=st.b)).map λe=>⟨e.n,e.b,e.t⟩
theorem zg5{c:Cl}{st:Sn}(P:Pa c st):wg st=zux st:=by
 have e1:(st.w.filter λe=>decide (e.d<=st.b))=st.w.filter λe=>decide (e.d=st.b):=List.filter_congr λe he=>by
  have:=P.lo e he;exact decide_eq_decide.mpr (by omega)
 unfold wg zux;rw[e1];refine zrl Tr.of_l ?_;rw[List.map_map];have so:(st.w.filter λe=>decide (e.d=st.b)).Pairwise λa b=>¬ En.l b<En.l a:=(List.pairwise_map.mp P.so).sublist List.filter_sublist;refine List.pairwise_map.mpr (so.imp_of_mem λ{a b} ha hb h z=>h ?_);have h1:=of_decide_eq_true (List.mem_filter.mp ha).2;have h2:=of_decide_eq_true (List.mem_filter.mp hb).2;show([b.d,b.n,b.b,b.t]:List Int) < [a.d,a.n,a.b,a.t];rw[h1,h2];exact List.Lex.cons z
theorem zrm{c:Cl}{st:Sn}(P:Pa c st):y6 st = { st with w:=st.w.filter λe=>!decide (e.d=st.b) }:=by
 unfold y6;congr 1;refine List.filter_congr λe he=>?_;have:=P.lo e he
 by_cases z:e.d=st.b
 ·rw[decide_eq_true z,decide_eq_false (by omega)];rfl
 ·rw[decide_eq_false z,decide_eq_true (by omega)];rfl
theorem zrn{c:Cl}(o:c.Ok){st:Sn}(P:Pa c st)(hb:st.b<=899999)(snd:Bool)(m:Nat):Pa c (vx c st snd m).1/\(vx c st snd m).1.b=st.b+1/\(vx c st snd m).1.k=st.k+m/\(vx c st snd m).1.w.length<=st.w.length+m/\(vx c st snd m).2.length<=st.w.length+m:=by
 have os:=P.ok;have os0:(y6 st).Ok c:=⟨os.b1,os.b2,λe he=>os.w e (List.mem_filter.mp he).1,os.c1,os.c2,os.g⟩
 have dm:∀r∈wg st,∃e∈st.w,r=⟨e.n,e.b,e.t⟩:=λr hr=>by
  rw[zg5 P]at hr;obtain⟨e,he,rfl⟩:=List.mem_map.mp hr;exact⟨e,(List.mem_filter.mp he).1,rfl⟩
 have hdue:∀r∈wg st,r.Ok c:=λr hr=>by
  obtain⟨e,he,rfl⟩:=dm r hr;have:=os.w e he;exact⟨by have:=this.t1;simp only[];omega,this.t2⟩
 obtain⟨p1,p2,p3,p4,p5⟩:=zdp o (snd:=snd) (wg st) (y6 st) [] hdue os0;obtain⟨q1,q2,q3,q4,q5⟩:=zlr o (snd:=snd) m st.k (wk c snd (wg st) (y6 st) []).1 (wk c snd (wg st) (y6 st) []).2 p1;have hl:(wg st).length+(y6 st).w.length<=st.w.length:=by
  rw[zg5 P,zrm P];unfold zux;rw[List.length_map];simp only[];generalize st.w=w
  induction w with
  |nil=>exact Nat.le_refl _
  |cons x w ih=>
   rw[List.filter_cons,List.filter_cons]
   by_cases z:x.d=st.b
   ·rw[if_pos (decide_eq_true z),if_neg (by simp[z]),List.length_cons,List.length_cons];omega
   ·rw[if_neg (by simpa using z),if_pos (by simp[z]),List.length_cons,List.length_cons];omega
 have hd:∀(s:Sn) (n b t:Int) (L:Int),s.b=L->(∀e∈s.w,L+1<=e.d)->∀e∈(wz c s snd n b t).1.w,L+1<=e.d:=λs n b t L hL h e he=>by
  unfold wz at he
  split at he
  ·exact h e he
  ·unfold zc8 at he
   split at he
   ·next d hw=>
    rcases List.mem_append.mp he with he|he
    ·exact h e he
    ·cases List.mem_singleton.mp he;unfold whL at hw
     split at hw
     ·cases hw
     ·split at hw
      ·cases hw
      ·split at hw
       ·cases hw
       ·cases hw;have:=(zf3 o.p.g ((t+1).toNat-1)).1;show L+1<=s.b+gp c.p.g ((t+1).toNat-1);omega
   ·exact h e he
 have r0:∀e∈(y6 st).w,st.b+1<=e.d:=λe he=>by
  have:=of_decide_eq_true (List.mem_filter.mp he).2;omega
 have r1:∀(rs:List Tr) (s:Sn) (es:List Ev),s.b=st.b->(∀e∈s.w,st.b+1<=e.d)->∀e∈(wk c snd rs s es).1.w,st.b+1<=e.d:=λrs=>by
  induction rs with
  |nil=>exact λs es _ h=>h
  |cons r rs ih=>exact λs es hs h=>ih _ _ ((zep c s snd r.n r.b r.t).1.trans hs) (hd s r.n r.b r.t st.b hs h)
 have r2:∀(j:Nat) (n:Int) (s:Sn) (es:List Ev),s.b=st.b->(∀e∈s.w,st.b+1<=e.d)->∀e∈(vt c snd j n s es).1.w,st.b+1<=e.d:=λj=>by
  induction j with
  |zero=>exact λn s es _ h=>h
  |succ j ih=>exact λn s es hs h=>ih _ _ _ ((zep c (va c s) snd n s.b 0).1.trans hs) (hd (va c s) n s.b 0 st.b hs h)
 have pm:=kw En.of_l (vt c snd m st.k (wk c snd (wg st) (y6 st) []).1 (wk c snd (wg st) (y6 st) []).2).1.w;have rb:(y6 st).b=st.b:=rfl;have rk:(y6 st).k=st.k:=rfl;have b1:=os.b1;have k0:=P.k0;rw[List.length_nil,Nat.zero_add]at p5;refine⟨⟨⟨by show 0<=st.b+1;omega,by show st.b+1<=900000;omega,λe he=>q1.w e (pm.mem_iff.mp he),q1.c1,q1.c2,q1.g⟩,λe he=>?_,zna En.of_l _,?_⟩,rfl,?_,?_,?_⟩
 ·exact r2 _ _ _ _ (p2.trans rb) (r1 _ _ _ rb r0) e (pm.mem_iff.mp he)
 ·show 0<=(vt c snd m st.k (wk c snd (wg st) (y6 st) []).1 (wk c snd (wg st) (y6 st) []).2).1.k;omega
 ·show(vt c snd m st.k (wk c snd (wg st) (y6 st) []).1 (wk c snd (wg st) (y6 st) []).2).1.k=st.k+m;omega
 ·show(qg En.l En.of _).length<=_;rw[pm.length_eq];omega
 ·show(vt c snd m st.k (wk c snd (wg st) (y6 st) []).1 (wk c snd (wg st) (y6 st) []).2).2.length<=_;omega
def Fb(n b:Int):Prop:=0<=n/\n<=2000000/\0<=b/\b<=2000000
def Wt.B:Wt->Prop
 |.due d=>0<=d/\d<=1000000
 |_=>True
def Ev.B(e:Ev):Prop:=0<=e.n/\e.n<=2000000/\e.t.B
theorem zxj{c:Cl}(o:c.Ok){st:Sn}(h:st.Ok c)(b t:Int):(whL c st.c st.b b t).B:=by
 unfold whL
 split
 ·exact trivial
 ·split
  ·exact trivial
  ·split
   ·exact trivial
   ·have bd:=zf3 o.p.g (t.toNat-1);have:=h.b1;have:=h.b2;exact⟨by omega,by omega⟩
theorem zpu{c:Cl}(o:c.Ok){st:Sn}(h:st.Ok c)(hw:∀e∈st.w,Fb e.n e.b){snd:Bool}{n b t:Int}(hf:Fb n b):(∀e∈(wz c st snd n b t).1.w,Fb e.n e.b)/\(wz c st snd n b t).2.B:=by
 have wb:=zxj o h b (t+1);unfold wz
 split
 ·exact⟨hw,hf.1,hf.2.1,trivial⟩
 ·refine⟨λe he=>?_,hf.1,hf.2.1,wb⟩;unfold zc8 at he
  split at he
  ·rcases List.mem_append.mp he with he|he
   ·exact hw e he
   ·cases List.mem_singleton.mp he;exact hf
  ·exact hw e he
theorem zlu{es:List Ev}{x:Ev}(h:∀e∈es,e.B)(hx:x.B):∀e∈es ++ [x],e.B:=λe he=>by
 rcases List.mem_append.mp he with he|he
 ·exact h e he
 ·cases List.mem_singleton.mp he;exact hx
theorem zlv{c:Cl}(o:c.Ok){snd:Bool}:∀(rs:List Tr) (st:Sn) (es:List Ev),(∀r∈rs,r.Ok c/\Fb r.n r.b)->st.Ok c->(∀e∈st.w,Fb e.n e.b)->(∀e∈es,e.B)->(∀e∈(wk c snd rs st es).1.w,Fb e.n e.b)/\∀e∈(wk c snd rs st es).2,e.B
 |[],_,_,_,_,hw,he=>⟨hw,he⟩
 |r::rs,st,es,hr,h,hw,he=>by
  obtain⟨h1,h2⟩:=hr r List.mem_cons_self;obtain⟨t1,t2⟩:=zpu o h hw (snd:=snd) (t:=r.t) h2;exact zlv o rs _ _ (λx hx=>hr x (List.mem_cons_of_mem _ hx)) (zac o h h1.1 h1.2) t1 (zlu he t2)
theorem zlw{c:Cl}(o:c.Ok){snd:Bool}:∀(m:Nat) (n:Int) (st:Sn) (es:List Ev),0<=n->n+m<=2000000->st.Ok c->(∀e∈st.w,Fb e.n e.b)->(∀e∈es,e.B)->(∀e∈(vt c snd m n st es).1.w,Fb e.n e.b)/\∀e∈(vt c snd m n st es).2,e.B
 |0,_,_,_,_,_,_,hw,he=>⟨hw,he⟩
 |m+1,n,st,es,n0,n1,h,hw,he=>by
  have p1:=o.p.n1;have b1:=h.b1;have b2:=h.b2;obtain⟨t1,t2⟩:=zpu o (zbd o h) (snd:=snd) (n:=n) (b:=st.b) (t:=0) hw ⟨by omega,by omega,by omega,by omega⟩;exact zlw o m (n+1) _ _ (by omega) (by omega) (zac o (zbd o h) (by omega) (by omega)) t1 (zlu he t2)
theorem zro{c:Cl}(o:c.Ok){st:Sn}(P:Pa c st)(hw:∀e∈st.w,Fb e.n e.b)(snd:Bool)(m:Nat)(hk:st.k+m<=2000000):(∀e∈(vx c st snd m).1.w,Fb e.n e.b)/\∀e∈(vx c st snd m).2,e.B:=by
 have os:=P.ok;have os0:(y6 st).Ok c:=⟨os.b1,os.b2,λe he=>os.w e (List.mem_filter.mp he).1,os.c1,os.c2,os.g⟩
 have hdue:∀r∈wg st,r.Ok c/\Fb r.n r.b:=λr hr=>by
  rw[zg5 P]at hr;obtain⟨e,he,rfl⟩:=List.mem_map.mp hr;have h1:=(List.mem_filter.mp he).1;have:=os.w e h1;exact⟨⟨by have:=this.t1;simp only[];omega,this.t2⟩,hw e h1⟩
 obtain⟨p1,p2,p3,p4,p5⟩:=zdp o (snd:=snd) (wg st) (y6 st) [] (λr hr=>(hdue r hr).1) os0;obtain⟨q1,q2⟩:=zlv o (snd:=snd) (wg st) (y6 st) [] hdue os0 (λe he=>hw e (List.mem_filter.mp he).1) (λe he=>nomatch he);obtain⟨r1,r2⟩:=zlw o (snd:=snd) m st.k (wk c snd (wg st) (y6 st) []).1 (wk c snd (wg st) (y6 st) []).2 P.k0 hk p1 q1 q2;have pm:=kw En.of_l (vt c snd m st.k (wk c snd (wg st) (y6 st) []).1 (wk c snd (wg st) (y6 st) []).2).1.w;exact⟨λe he=>r1 e (pm.mem_iff.mp he),r2⟩
theorem zf5{i:Int}(h : -10000000<=i)(h2:i<=10000000):Sh (.int i) 41 0:=Sh.intB (by omega) (by omega)
theorem kh{n k:Nat}:∀{x:D}{xs:List D},Sh x n k->(∀y∈xs,Sh y n k)->∀y∈x::xs,Sh y n k:=λh hs y hy=>by
 rcases List.mem_cons.mp hy with rfl|hy
 ·exact h
 ·exact hs y hy
theorem zij{n k:Nat}:∀y∈([]:List D),Sh y n k:=λy hy=>nomatch hy
theorem zf6{w:Wt}(h:w.B):Sh w.D 41 1:=by
 cases w with
 |non=>exact Sh.none.mono (by decide) (by decide)
 |due d=>exact(zf5 (by have:=h.1;omega) (by have:=h.2;omega)).mono (by decide) (by decide)
 |kno=>exact⟨by decide +kernel,by decide +kernel,by decide +kernel,by decide +kernel⟩
 |tim=>exact⟨by decide +kernel,by decide +kernel,by decide +kernel,by decide +kernel⟩
 |pur=>exact⟨by decide +kernel,by decide +kernel,by decide +kernel,by decide +kernel⟩
structure Td where
 s:Sn
 k:Int
 v:Int
 l:Int
def Td.D(t:Td):D:=.tuple [t.s.D,.int t.k,.int t.v,.int t.l]
def zik:Wt->Bool
 |.kno=>true
 |.tim=>true
 |.pur=>true
 |_=>false
def zrp:Option Bool->Bool
 |some true=>true
 |_=>false
def zke(es:List Ev):Nat:=es.countP λe=>e.w.isSome
def znb(es:List Ev):Nat:=es.countP λe=>zrp e.w
def znc(es:List Ev):Nat:=es.countP λe=>zik e.t
def tbL(c:Cl)(t:Td)(snd:Bool)(m:Nat):Td:=⟨(vx c t.s snd m).1,t.k+zke (vx c t.s snd m).2,t.v+znb (vx c t.s snd m).2,t.l+znc (vx c t.s snd m).2⟩
def wdS:Option Bool->Str
 |none=> "held"
 |some true=> "served"
 |some false=> "silent"
theorem zxk(w:Option Bool):wdE w=.str (wdS w):=by
 cases w with
 |none=>rfl
 |some b=>cases b <;> rfl
theorem zsg:¬ ((Str.ofString "served")=(Str.ofString "held")):=by decide +kernel
theorem zsh:¬ ((Str.ofString "silent")=(Str.ofString "held")):=by decide +kernel
theorem zrq(w:Option Bool):(wdS w == Str.ofString "held") = !w.isSome:=by
 cases w with
 |none=>exact beq_self_eq_true _
 |some b=>
  cases b with
  |true=>exact beq_eq_false_iff_ne.mpr zsg
  |false=>exact beq_eq_false_iff_ne.mpr zsh
theorem zrr(w:Option Bool):(wdS w == Str.ofString "served")=zrp w:=by
 cases w with
 |none=>exact beq_eq_false_iff_ne.mpr zls
 |some b=>
  cases b with
  |true=>exact beq_self_eq_true _
  |false=>exact beq_eq_false_iff_ne.mpr zlt
theorem zpv(es:List Ev):((es.map λe=>wdS e.w).count (Str.ofString "held"):Nat)+zke es=es.length:=by
 unfold zke
 induction es with
 |nil=>rfl
 |cons e es ih=>
  rw[List.map_cons,List.count_cons,List.countP_cons,List.length_cons,zrq]
  cases e.w.isSome <;> simp <;> omega
theorem zpw(es:List Ev):(es.map λe=>wdS e.w).count (Str.ofString "served")=znb es:=by
 unfold znb
 induction es with
 |nil=>rfl
 |cons e es ih=>rw[List.map_cons,List.count_cons,List.countP_cons,zrr,ih]
theorem zpx(es:List Ev):(es.filterMap λe=>if zik e.t=true then some (PyData.int e.n) else none).length=znc es:=by
 unfold znc
 induction es with
 |nil=>rfl
 |cons e es ih=>
  rw[List.filterMap_cons,List.countP_cons]
  cases z:zik e.t with
  |true=>simp only[if_true,List.length_cons];rw[ih]
  |false=>simp only[Bool.false_eq_true,if_false];rw[ih];rfl
def vv:DSp:=λws Q=>∃(c:Cl) (t:Td) (snd:Bool) (m:Nat),ws = [.val c.D,.val t.D,.val (.bool snd),.val (.int m)]/\c.Ok/\t.s.Ok c/\t.s.w.length<=24/\m<=8/\(0<=t.s.k/\t.s.k<=1000000)/\(vx c t.s snd m).2.length<=1000/\Q (.val (tbL c t snd m).D)
theorem zet(B:Blt mg)(F:Fun K "told_behind" "told_behind" xl f fd){t_HELD:Tok}(G_HELD:mg "HELD" = some (.str "held" t_HELD)){t_SERVED:Tok}(G_SERVED:mg "SERVED" = some (.str "served" t_SERVED))(C_stepped:Cal P w K mg base 5 "stepped" ["caller", "standing", "sound", "many"] (yh K zes)):FnOk P w K mg base CX0 6 f fd ["caller", "told", "sound", "many"] (yh K vv):=by
 refine F.dok sc_told_behind (λws Q h=>?_) (λcdv A outer s H ws Q E hr h=>?_)
 ·obtain⟨c,t,snd,m,rfl,_⟩:=h;rfl
 obtain⟨c,t,snd,m,rfl,o,os,hl,hm,hk,he,q⟩:=h;simp only[Td.D];refine⟨_,(zg (xq (zi 1) (yv (n:=4) rfl (ze (zf (i:=4) sc_told_behind.nd rfl (Or.inl rfl)) (ze (zf (i:=5) sc_told_behind.nd rfl (Or.inl rfl)) (ze (zf (i:=6) sc_told_behind.nd rfl (Or.inl rfl)) (ze (zf (i:=7) sc_told_behind.nd rfl (Or.inl rfl)) yj)))))) (zg (xq (zq C_stepped hr rfl (zn 0 (zn 4 (zn 2 (zn 3 zy))))) (yv (n:=2) rfl (ze (zf (i:=8) sc_told_behind.nd rfl (Or.inl rfl)) (ze (zf (i:=9) sc_told_behind.nd rfl (Or.inl rfl)) yj)))) (zg (j8 (i:=10) sc_told_behind.nd rfl (Or.inl rfl) rfl (N':=["number", "word", "what"]) (capt:=[]) (k:=3) (js:=[]) ⟨rfl,by decide,rfl,by decide,.nil,rfl,.nil,rfl,by decide⟩ (wr (zb 9)) (λ_ _ _ _=>(yv (n:=3) rfl (ze (zf (i:=0) (show List.Nodup (["number", "word", "what"]:List Str) by decide +kernel) rfl (Or.inl rfl) (Or.inr rfl)) (ze (zf (i:=1) (show List.Nodup (["number", "word", "what"]:List Str) by decide +kernel) rfl (Or.inl rfl) (Or.inr rfl)) (ze (zf (i:=2) (show List.Nodup (["number", "word", "what"]:List Str) by decide +kernel) rfl (Or.inl rfl) (Or.inr rfl)) yj))))) (λ_ _ _ _=>qi) (λ_ _ _ _=>(zi 1))) (zg (j8 (i:=11) sc_told_behind.nd rfl (Or.inl rfl) rfl (N':=["number", "word", "what"]) (capt:=[]) (k:=3) (js:=[]) ⟨rfl,by decide,rfl,by decide,.nil,rfl,.nil,rfl,by decide⟩ (wr (zb 9)) (λ_ _ _ _=>(yv (n:=3) rfl (ze (zf (i:=0) (show List.Nodup (["number", "word", "what"]:List Str) by decide +kernel) rfl (Or.inl rfl) (Or.inr rfl)) (ze (zf (i:=1) (show List.Nodup (["number", "word", "what"]:List Str) by decide +kernel) rfl (Or.inl rfl) (Or.inr rfl)) (ze (zf (i:=2) (show List.Nodup (["number", "word", "what"]:List Str) by decide +kernel) rfl (Or.inl rfl) (Or.inr rfl)) yj))))) (λ_ _ _ _=>(vk (w6 (DE.dv (zgj (n := "str") zsb rfl B.isinstance boot_isinstance (zb 2) rfl B.strT boot_str))))) (λ_ _ _ _=>(zi 0))) (zh (zw (zv (za (zi 8) (za (zx zdz (DE.dv (zx yn (zb 5) (DE.dv (yt zbo rfl B.len PySem.boot_len (zp (zb 10) yf))))) (DE.dv (zee (zb 10) (y0 (d:=.str "held") (v:=.str "held") rfl G_HELD ⟨_,rfl⟩ (λ_=>.str))))) (za (zx yn (zb 6) (DE.dv (zee (zb 10) (y0 (d:=.str "served") (v:=.str "served") rfl G_SERVED ⟨_,rfl⟩ (λ_=>.str))))) (za (zx yn (zb 7) (DE.dv (yt zbo rfl B.len PySem.boot_len (zp (zb 11) yf)))) zm))))))))))),?_⟩
 walk_at "ds";refine⟨c,t.s,snd,m,rfl,o,os,hl,hm,hk,?_⟩;unfold tbL at q;generalize vx c t.s snd m=r at he q;simp only[stD];walk_at "ds";rw[List.length_map];refine⟨by omega,j9 Ev.D (λe=>wdE e.w) (λe _ k hk=>?_) ?_⟩
 ·simp only[Ev.D];walk_at "ds";exact hk
 walk_at "ds";refine⟨by omega,vo Ev.D (λe=>if zik e.t=true then some (PyData.int e.n) else none) (λe _ k hk=>?_) ?_⟩
 ·simp only[Ev.D]
  cases z:e.t <;> rw[z]at hk <;> simp only[Wt.D] <;> walk_at "ds" <;> exact hk
 walk_at "ds";have e1:r.2.map (λe=>wdE e.w)=(r.2.map λe=>wdS e.w).map PyData.str:=by
  rw[List.map_map];exact List.map_congr_left λe _=>zxk e.w
 have h1:=zpv r.2;have h2:=zpw r.2;refine⟨_,e1,_,e1,?_⟩;rw[zpx,List.length_map];have e2:t.k+(r.2.length:Int)-(((r.2.map λe=>wdS e.w).count (Str.ofString "held"):Nat):Int)=t.k+(zke r.2:Int):=by omega
 simp only[Td.D]at q;rw[<-e2,<-h2]at q;exact q
def ko(c:Cl)(snd:Int->Bool):List Int->Int->Td->Td
 |[],_,t=>t
 |m::ms,b,t=>ko c snd ms (b+1) (tbL c t (snd b) m.toNat)
structure Gd(c:Cl)(j:Int)(t:Td):Prop where
 pa:Pa c t.s
 fb:∀e∈t.s.w,Fb e.n e.b
 b:t.s.b<=j
 k:t.s.k<=3 * j
 w:t.s.w.length<=3 * j
 k0:0<=t.k
 k1:t.k<=100 * j
 v0:0<=t.v
 v1:t.v<=100 * j
 l0:0<=t.l
 l1:t.l<=100 * j
theorem Gd.step{c:Cl}(o:c.Ok){j:Int}{t:Td}(h:Gd c j t)(hj:j<=7)(snd:Bool){m:Nat}(hm:m<=3):Gd c (j+1) (tbL c t snd m)/\(vx c t.s snd m).2.length<=30:=by
 have h1:=h.b;have h2:=h.k;have h3:=h.w;obtain⟨p,e1,e2,e3,e4⟩:=zrn o h.pa (by omega) snd m;obtain⟨f1,f2⟩:=zro o h.pa h.fb snd m (by omega);unfold tbL;generalize vx c t.s snd m=r at p e1 e2 e3 e4 f1 f2 ⊢;have c1:zke r.2<=r.2.length:=List.countP_le_length;have c2:znb r.2<=r.2.length:=List.countP_le_length;have c3:znc r.2<=r.2.length:=List.countP_le_length;have:=h.k0;have:=h.k1;have:=h.v0;have:=h.v1;have:=h.l0;have:=h.l1;exact⟨⟨p,f1,by simp only[];omega,by simp only[];omega,by simp only[];omega,by simp only[];omega,by simp only[];omega,by simp only[];omega,by simp only[];omega,by simp only[];omega,by simp only[];omega⟩,by omega⟩
def zc9(c:Cl):Td:=⟨zpr c,0,0,0⟩
theorem Gd.fir{c:Cl}(o:c.Ok):Gd c 0 (zc9 c):=by
 have:=o.u.f1;have:=o.u.f2;have:=o.u.c2;have:=o.g.f1;have nw:∀{P:En->Prop},∀e∈(zpr c).w,P e:=λ{P} e he=>absurd he List.not_mem_nil;have ok:(zpr c).Ok c:=⟨Int.le_refl 0,show(0:Int)<=900000 by decide,nw,by show 0<=c.u.f;omega,by show c.u.f<=10000;omega,⟨Int.le_refl 0,by omega⟩⟩
 exact⟨⟨ok,nw,List.Pairwise.nil,Int.le_refl 0⟩,nw,Int.le_refl 0,show(0:Int)<=3 * 0 by decide,show((0:Nat):Int)<=3 * 0 by decide,Int.le_refl 0,show(0:Int)<=100 * 0 by decide,Int.le_refl 0,show(0:Int)<=100 * 0 by decide,Int.le_refl 0,show(0:Int)<=100 * 0 by decide⟩
structure Bg(bs:List Int):Prop where
 lo:∀b∈bs,0<=b/\b<=3
 ln:bs.length<=8
theorem Gd.run{c:Cl}(o:c.Ok)(snd:Int->Bool):∀(ms:List Int) (b j:Int) (t:Td),Gd c j t->(∀m∈ms,0<=m/\m<=3)->j+ms.length<=8->Gd c (j+ms.length) (ko c snd ms b t)
 |[],_,j,t,h,_,_=>by
  rw[List.length_nil,show j+((0:Nat):Int)=j by simp];exact h
 |m::ms,b,j,t,h,hm,hj=>by
  rw[List.length_cons]at hj ⊢;have:=hm m List.mem_cons_self;have z:=Gd.run o snd ms (b+1) (j+1) _ (h.step o (by omega) (snd b) (m:=m.toNat) (by omega)).1 (λx hx=>hm x (List.mem_cons_of_mem _ hx)) (by omega);rw[show j+((ms.length+1:Nat):Int)=j+1+ms.length by omega];exact z
def zeu:DSp:=λws Q=>∃(c:Cl) (bs:List Int) (s:List (Int×Int)),ws = [.val c.D,.val (.tuple (bs.map PyData.int)),.val (.tuple (s.map pD))]/\c.Ok/\Bg bs/\s.length<=10000/\Q (.val (ko c (λb=>!zbc s b) bs 0 (zc9 c)).D)
theorem zkf(B:Blt mg)(F:Fun K "told_of" "told_of" wy f fd)(C_silent_at:Cal P w K mg base 1 "silent_at" ["story", "beat"] (yh K zb1))(C_first_of:Cal P w K mg base 1 "first_of" ["caller"] (yh K zaf))(C_told_behind:Cal P w K mg base 6 "told_behind" ["caller", "told", "sound", "many"] (yh K vv)):FnOk P w K mg base CX0 7 f fd ["caller", "beginnings", "story"] (yh K zeu):=by
 refine F.dok sc_told_of (λws Q h=>?_) (λcdv A outer s H ws Q E hr h=>?_)
 ·obtain⟨c,bs,s,rfl,_⟩:=h;rfl
 obtain⟨c,bs,st,rfl,o,bg,hl,q⟩:=h;have ln:=bg.ln;refine⟨_,(zg (yu (i:=3) sc_told_of.nd rfl (Or.inl rfl) (zv (za (zq C_first_of hr rfl (zn 0 zy)) (za zc (za zc (za zc zm yr) yr) yr)))) (zg (qw PassesOwn.never rfl (zd2 rfl B.enumerate (za (zi 1) zm)) (yv (n:=2) rfl (ze (zf (i:=4) sc_told_of.nd rfl (Or.inl rfl)) (ze (zf (i:=5) sc_told_of.nd rfl (Or.inl rfl)) yj))) (zh (yu (i:=3) sc_told_of.nd rfl (Or.inl rfl) (zq C_told_behind hr rfl (zn 0 (zn 3 (ym (zn6 (zq C_silent_at hr rfl (zn 2 (zn 4 zy)))) (zn 5 zy)))))))) (zh (zw (zi 3))))),?_⟩;walk_at "ds";refine⟨c,rfl,?_⟩;walk_at "ds";refine wj (λds σ=>∃(ms:List Int) (i:Nat) (t:Td) (u4 u5:Option W),ds=vj i (ms.map PyData.int)/\Gd c i t/\(∀m∈ms,0<=m/\m<=3)/\(i:Int)+ms.length<=8/\ko c (λb=>!zbc st b) ms i t=ko c (λb=>!zbc st b) bs 0 (zc9 c)/\σ = [some (.val c.D),some (.val (.tuple (bs.map PyData.int))),some (.val (.tuple (st.map pD))),some (.val t.D),u4,u5]) ?_ ?_ ⟨bs,0,zc9 c,_,_,rfl,Gd.fir o,bg.lo,by omega,rfl,rfl⟩
 ·intro d ds σ N zz k;refine gg λG zk=>?_;obtain⟨ms,i,t,u4,u5,e,g,hm,hj,er,zs⟩:=zz;refine zk ?_;clear zk;subst zs
  cases ms with
  |nil=>cases e
  |cons m ms=>
   rw[List.map_cons,vj]at e
   cases e;rw[List.length_cons]at hj;have h0:=hm m List.mem_cons_self;have st':=g.step o (by omega) (!zbc st i) (m:=m.toNat) (by omega);have h1:=g.k;have h2:=g.w;walk_at "ds";refine⟨st,i,rfl,hl,?_⟩;walk_at "ds";refine⟨c,t,!zbc st i,m.toNat,by rw[show((m.toNat:Nat):Int)=m by omega],o,g.pa.ok,by omega,by omega,⟨g.pa.k0,by omega⟩,by have:=st'.2;omega,?_⟩;exact k _ ⟨ms,i+1,_,_,_,rfl,by have:=st'.1;simpa using this,λx hx=>hm x (List.mem_cons_of_mem _ hx),by omega,by rw[<-er];show _=ko _ _ ms _ _;congr 1,rfl⟩
 ·intro σ zz;refine gg λG zk=>?_;obtain⟨ms,i,t,u4,u5,e,g,hm,hj,er,zs⟩:=zz;refine zk ?_;clear zk;subst zs
  cases ms with
  |cons m ms=>rw[List.map_cons,vj]at e;cases e
  |nil=>
   rw[<-er]at q;exact q
end
section
variable {P:Program}{w:World}{K:PySem.W.Frag}{mg:Str->Option Value}{base:Heap}{f:Addr}{fd:FuncData}
def stO(s:Sn):O:=.mix [.v (.int s.b),.l (s.w.map En.D),.v (.int s.c),.v s.g.D]
theorem ix4{n:Int}{k:Nat}(h:n=k)(hk:k<4):ixN 4 n=some k:=by
 subst h;exact zq5 hk
def zcv:DSp:=λws Q=>∃(g:Gp) (n:Int),ws = [.val g.D,.val (.int n)]/\g.Ok/\1<=n/\n<=10000/\Q (.val (.int (gp g (n.toNat-1))))
theorem zil(B:Blt mg)(F:Fun K "_law_gap" "_law_gap" we f fd):FnOk P w K mg base CX0 1 f fd ["_law_gaps", "_law_k"] (yh K zcv):=by
 refine F.dok sc__law_gap (λws Q h=>?_) (λcdv A outer s H ws Q E hr h=>?_)
 ·obtain⟨g,n,rfl,_⟩:=h;rfl
 obtain⟨g,n,rfl,o,h0,hn,q⟩:=h;simp only[Gp.D];refine⟨_,(zg (yu (i:=2) sc__law_gap.nd rfl (Or.inl rfl) (yt (zaz rfl) rfl B.min boot_min (zp (DE.dv (z0 (zb 0) zc (λ_ _=>rfl))) (zp (DE.dv (z0 (zb 0) zc (λ_ _=>rfl))) yf)))) (zg (qw PassesOwn.never rfl (v4 rfl B.range (za (zx zdz (zb 1) (DE.dv zc)) zm)) (zf (i:=3) sc__law_gap.nd rfl (Or.inl rfl)) (zh (yu (i:=2) sc__law_gap.nd rfl (Or.inl rfl) (yt (zaz rfl) rfl B.min boot_min (zp (DE.dv (z0 (zb 0) zc (λ_ _=>rfl))) (zp (DE.dv (zx yn (DE.dv (zx zcr (DE.dv (z0 (zb 0) zc (λ_ _=>rfl))) (zb 2))) (DE.dv (z0 (zb 0) zc (λ_ _=>rfl))))) yf)))))) (zh (zw (zi 2))))),?_⟩;walk_at "ds";refine⟨_,yp _ _,_,vc _ _ _ _ _,?_⟩;walk_at "ds";refine⟨by omega,?_⟩;have hlen:(y3 0 (n-1).toNat).length=n.toNat-1:=by rw[jq];omega
 generalize y3 0 (n-1).toNat=ts at hlen;refine wj (λds σ=>∃(j:Nat) (u3:Option W),j+ds.length=n.toNat-1/\σ = [some (.val (.tuple [.int g.f,.int g.t,.int g.m,.int g.k])),some (.val (.int n)),some (.val (.int (gp g j))),u3]) ?_ ?_ ⟨0,_,by omega,rfl⟩
 ·rintro d ds σ N ⟨j,u3,hj,rfl⟩ k;rw[List.length_cons]at hj;have bd:=zf3 o j;have:=o.t1;have:=o.t2;walk_at "ds";refine⟨_,vc _ _ _ _ _,_,y4 _ _ _,kc (by omega) (by omega) (by omega) (by omega),_,v7 _ _ _ _,?_⟩;walk_at "ds";have e1:min g.k (g.t * gp g j+g.m)=gp g (j+1):=by rw[Int.min_comm];rfl
  rw[e1];exact k _ ⟨j+1,_,by omega,rfl⟩
 ·rintro σ ⟨j,u3,hj,rfl⟩;rw[List.length_nil,Nat.add_zero]at hj;rw[hj];exact q
def zb2:DSp:=λws Q=>∃(g:Gt) (s:Sg) (b:Int) (a:Bool),ws = [.val g.D,.val s.D,.val (.int b),.val (.bool a)]/\g.Ok/\s.Ok g/\s.shut=false/\Q (.val (heL g s b a).D)
theorem zg6(B:Blt mg)(F:Fun K "_law_hear" "_law_hear" x0 f fd):FnOk P w K mg base CX0 1 f fd ["_law_gate", "_law_now", "_law_beat", "_law_sound"] (yh K zb2):=by
 refine F.dok sc__law_hear (λws Q h=>?_) (λcdv A outer s H ws Q E hr h=>?_)
 ·obtain⟨g,s,b,a,rfl,_⟩:=h;rfl
 obtain⟨g,s,b,a,rfl,o,os,hs,q⟩:=h;have:=o.m2;have:=o.t1;have:=o.t2;have:=o.f1
 cases s with
 |sh u w=>cases hs
 |op k=>
  simp only[Sg.Ok]at os;simp only[Sg.D,Gt.D];refine⟨_,(zg (xa (ye (ja hr) (DE.dv (z0 (zb 1) zc (λ_ _=>rfl))) (DE.dv y9) (yd _)) (zg (yu (i:=4) sc__law_hear.nd rfl (Or.inl rfl) (qa (w6 (zb 3)) zc (zx yn (DE.dv (z0 (zb 1) zc (λ_ _=>rfl))) (DE.dv zc)))) (zh (zw (qa (ye zc2 (zb 4) (DE.dv (z0 (zb 0) zc (λ_ _=>rfl))) (yd _)) (zv (za y9 (za (zi 4) zm) yr)) (zv (za y9 (za (zx yn (zb 2) (DE.dv (z0 (zb 0) zc (λ_ _=>rfl)))) (za (z0 (zb 0) zc (λ_ _=>rfl)) zm)) yr)))))) yo) (zg (xa (w6 (zb 3)) (zh (zw (qa (ye zc2 (DE.dv (zx yn (DE.dv (z0 (zb 1) zc (λ_ _=>rfl))) (DE.dv zc))) (DE.dv (z0 (zb 0) zc (λ_ _=>rfl))) (yd _)) (zv (za y9 (za (zx yn (DE.dv (z0 (zb 1) zc (λ_ _=>rfl))) (DE.dv zc)) (za (z0 (zb 1) zc (λ_ _=>rfl)) zm)) yr)) (zv (za y9 (za zc zm yr) yr))))) yo) (zg (yu (i:=5) sc__law_hear.nd rfl (Or.inl rfl) (yt (zaz rfl) rfl B.min boot_min (zp (DE.dv (z0 (zb 0) zc (λ_ _=>rfl))) (zp (DE.dv (zx zcr (DE.dv (z0 (zb 0) zc (λ_ _=>rfl))) (DE.dv (z0 (zb 1) zc (λ_ _=>rfl))))) yf)))) (zh (zw (zv (za y9 (za (zx yn (zb 2) (zb 5)) (za (zi 5) zm)) yr))))))),?_⟩;walk_at "ds";refine⟨_,yp _ _,?_⟩;walk_at "ds";simp only[heL]at q
  cases a with
  |true=>
   walk_at "ds";refine⟨_,yp _ _,?_⟩;walk_at "ds";rw[if_pos (by omega)];exact q
  |false=>
   rw[if_neg (by decide)]at q;walk_at "ds";refine⟨_,y4 _ _ _,?_⟩;walk_at "ds";refine⟨_,yp _ _,?_⟩;walk_at "ds"
   by_cases c:k+1=g.f
   ·rw[if_neg (by omega)];rw[if_pos c]at q;refine⟨_,y4 _ _ _,?_⟩;walk_at "ds";exact⟨_,y4 _ _ _,q⟩
   ·rw[if_pos (by omega)];rw[if_neg c]at q;exact q
 |tr k w=>
  simp only[Sg.Ok]at os;simp only[Sg.D,Gt.D];refine⟨_,(zg (xa (ye (ja hr) (DE.dv (z0 (zb 1) zc (λ_ _=>rfl))) (DE.dv y9) (yd _)) (zg (yu (i:=4) sc__law_hear.nd rfl (Or.inl rfl) (qa (w6 (zb 3)) zc (zx yn (DE.dv (z0 (zb 1) zc (λ_ _=>rfl))) (DE.dv zc)))) (zh (zw (qa (ye zc2 (zb 4) (DE.dv (z0 (zb 0) zc (λ_ _=>rfl))) (yd _)) (zv (za y9 (za (zi 4) zm) yr)) (zv (za y9 (za (zx yn (zb 2) (DE.dv (z0 (zb 0) zc (λ_ _=>rfl)))) (za (z0 (zb 0) zc (λ_ _=>rfl)) zm)) yr)))))) yo) (zg (xa (w6 (zb 3)) (zh (zw (qa (ye zc2 (DE.dv (zx yn (DE.dv (z0 (zb 1) zc (λ_ _=>rfl))) (DE.dv zc))) (DE.dv (z0 (zb 0) zc (λ_ _=>rfl))) (yd _)) (zv (za y9 (za (zx yn (DE.dv (z0 (zb 1) zc (λ_ _=>rfl))) (DE.dv zc)) (za (z0 (zb 1) zc (λ_ _=>rfl)) zm)) yr)) (zv (za y9 (za zc zm yr) yr))))) yo) (zg (yu (i:=5) sc__law_hear.nd rfl (Or.inl rfl) (yt (zaz rfl) rfl B.min boot_min (zp (DE.dv (z0 (zb 0) zc (λ_ _=>rfl))) (zp (DE.dv (zx zcr (DE.dv (z0 (zb 0) zc (λ_ _=>rfl))) (DE.dv (z0 (zb 1) zc (λ_ _=>rfl))))) yf)))) (zh (zw (zv (za y9 (za (zx yn (zb 2) (zb 5)) (za (zi 5) zm)) yr))))))),?_⟩;walk_at "ds";refine⟨_,yp _ _,?_⟩;walk_at "ds";simp only[heL]at q;rw[if_neg zsf]
  cases a with
  |true=>
   rw[if_pos rfl]at q;walk_at "ds";refine⟨_,y4 _ _ _,_,zoz _ _ _ _ _ _,?_⟩;walk_at "ds"
   by_cases c:k+1=g.n
   ·rw[if_neg (by omega)];rw[if_pos c]at q;exact q
   ·rw[if_pos (by omega)];rw[if_neg c]at q;refine⟨_,y4 _ _ _,?_⟩;walk_at "ds";exact⟨_,v7 _ _ _ _,q⟩
  |false=>
   rw[if_neg (by decide)]at q;walk_at "ds";refine⟨_,vc _ _ _ _ _,_,v7 _ _ _ _,_,v7 _ _ _ _,?_⟩;walk_at "ds";rw[Int.min_comm];exact⟨kc (by omega) (by omega) (by omega) (by omega),q⟩
def zcw:zci:=λwp o wq Q=>∃(c:Cl) (s:Sn) (snd:Bool) (n bg t:Int),wp = [.val c.D]/\o=stO s/\wq = [.val (.bool snd),.val (.tuple [.int n,.int bg,.int t])]/\c.Ok/\s.Ok c/\0<=t/\t<c.p.n/\s.w.length<=10000/\Q (wz c s snd n bg t).2.D (stO (wz c s snd n bg t).1)
theorem zxl{g:Gt}{s:Sg}{b:Int}{snd:Bool}(h:(qt s b).1=true):kg g s b snd=(some snd,heL g (qt s b).2 b snd):=by
 unfold kg;rw[if_pos h]
theorem zxm{g:Gt}{s:Sg}{b:Int}{snd:Bool}(h:(qt s b).1=false):kg g s b snd=(none,(qt s b).2):=by
 unfold kg;rw[if_neg (by rw[h];decide)]
theorem zim(B:Blt mg)(F:Fun K "_law_try" "_law_try" wf f fd)(C__law_gap:Cal P w K mg base 1 "_law_gap" ["_law_gaps", "_law_k"] (yh K zcv))(C__law_hear:Cal P w K mg base 1 "_law_hear" ["_law_gate", "_law_now", "_law_beat", "_law_sound"] (yh K zb2)):FnOk P w K mg base CX0 2 f fd ["_law_caller_here", "_law_state", "_law_sound", "_law_one"] (zle K zcw):=by
 refine F.dokG sc__law_try (λwp o wq Q h=>?_) (λcdv A outer s H a wp o wq Q E hr h=>?_)
 ·obtain⟨c,s,snd,n,bg,t,rfl,rfl,rfl,_⟩:=h;rfl
 obtain⟨c,st,snd,n,bg,t,rfl,rfl,rfl,o,os,t1,t2,hl,q⟩:=h;have lo:=zj9 (b:=st.b) o.g os.g;have n2:=o.p.n2;simp only[Cl.D];refine⟨_,(vg (zba (xq (zi 0) (yv (n:=3) rfl (ze (zf (i:=4) sc__law_try.nd rfl (Or.inl rfl)) (ze (zf (i:=5) sc__law_try.nd rfl (Or.inl rfl)) (ze (zf (i:=6) sc__law_try.nd rfl (Or.inl rfl)) yj)))))) (vg (zba (xq (zi 3) (yv (n:=3) rfl (ze (zf (i:=7) sc__law_try.nd rfl (Or.inl rfl)) (ze (zf (i:=8) sc__law_try.nd rfl (Or.inl rfl)) (ze (zf (i:=9) sc__law_try.nd rfl (Or.inl rfl)) yj)))))) (vg (zba (xq (zv (za y9 (za za5 zm yr) yr)) (yv (n:=2) rfl (ze (zf (i:=10) sc__law_try.nd rfl (Or.inl rfl)) (ze (zf (i:=11) sc__law_try.nd rfl (Or.inl rfl)) yj))))) (vg (zba (xa (DWt.dt (zgh (ye (ja hr) (DE.dv (z0 (jc 1 zc (λ_ _=>rfl)) zc (λ_ _=>rfl))) (DE.dv y9) (yd _)) (zdg (ye zqm (jc 1 zc (λ_ _=>rfl)) (DE.dv (z0 (jc 1 zc (λ_ _=>rfl)) zc (λ_ _=>rfl))) (yd _))))) (zh (zdn 1 (zv (za y9 (za zc (za (z0 (jc 1 zc (λ_ _=>rfl)) zc (λ_ _=>rfl)) zm) yr) yr)) zc)) yo)) (vg (zba (xa (ye (zgi hr) (DE.dv (z0 (jc 1 zc (λ_ _=>rfl)) zc (λ_ _=>rfl))) (DE.dv y9) (yd _)) (zg (yu (i:=10) sc__law_try.nd rfl (Or.inl rfl) (qa (w6 (zb 2)) y9 y9)) (zh (zdn 1 (zq C__law_hear hr rfl (zn 6 (ym (zgy 1 zc (λ_ _=>rfl)) (ym (zgy 1 zc (λ_ _=>rfl)) (zn 2 zy))))) zc))) yo)) (vg (zum (ye (ja hr) (zb 10) (DE.dv y9) (yd _)) (zh6 (zlf (zv (za (zi 7) (za (zi 10) (za za5 zm yr)))))) zpd) (vg (zba (yu (i:=12) sc__law_try.nd rfl (Or.inl rfl) (zx yn (jc 1 zc (λ_ _=>rfl)) (DE.dv (zq C__law_gap hr rfl (ym (z0 (zb 4) zc (λ_ _=>rfl)) (ym (zx yn (zb 9) (DE.dv zc)) zy))))))) (vg (zba (xa (ye zqm (DE.dv (zx yn (zb 9) (DE.dv zc))) (DE.dv (z0 (zb 4) zc (λ_ _=>rfl))) (yd _)) (zh (yu (i:=11) sc__law_try.nd rfl (Or.inl rfl) y9)) (zh (xa (ye zmk (zb 12) (DE.dv (zx yn (zb 8) (DE.dv (z0 (zb 4) zc (λ_ _=>rfl))))) (yd _)) (zh (yu (i:=11) sc__law_try.nd rfl (Or.inl rfl) y9)) (zh (xa (ye zc2 (jc 1 zc (λ_ _=>rfl)) (DE.dv (z0 (zb 5) zc (λ_ _=>rfl))) (yd _)) (zh (yu (i:=11) sc__law_try.nd rfl (Or.inl rfl) y9)) (zg (yu (i:=11) sc__law_try.nd rfl (Or.inl rfl) (zi 12)) (zg (zdn 1 (zx zdz (jc 1 zc (λ_ _=>rfl)) (DE.dv (z0 (zb 5) zc (λ_ _=>rfl)))) zc) (zh (zrd 1 zc (zv (za (zi 12) (za (zi 7) (za (zi 8) (za (zx yn (zb 9) (DE.dv zc)) zm))))) (λ_ _=>rfl))))))))))) (zh6 (zlf (zv (za (zi 7) (za (zi 10) (za (zi 11) zm)))))))))))))),?_⟩
 refine zbz (λσ=>σ = [some (.val c.D),some (.own (.anc a (stO st))),some (.val (.bool snd)),some (.val (.tuple [.int n,.int bg,.int t])),some (.val c.p.D),some (.val c.u.D),some (.val c.g.D),none,none,none,none,none,none]) (λN hN=>?_) ?_
 ·walk_at "ds";exact hN _ rfl
 rintro σ rfl;refine zbz (λσ=>σ = [some (.val c.D),some (.own (.anc a (stO st))),some (.val (.bool snd)),some (.val (.tuple [.int n,.int bg,.int t])),some (.val c.p.D),some (.val c.u.D),some (.val c.g.D),some (.val (.int n)),some (.val (.int bg)),some (.val (.int t)),none,none,none]) (λN hN=>?_) ?_
 ·walk_at "ds";exact hN _ rfl
 rintro σ rfl;refine zbz (λσ=>σ = [some (.val c.D),some (.own (.anc a (stO st))),some (.val (.bool snd)),some (.val (.tuple [.int n,.int bg,.int t])),some (.val c.p.D),some (.val c.u.D),some (.val c.g.D),some (.val (.int n)),some (.val (.int bg)),some (.val (.int t)),some (.val (.str "held")),some (.val .none),none]) (λN hN=>?_) ?_
 ·walk_at "ds";exact hN _ rfl
 rintro σ rfl;refine zbz (λσ=>σ = [some (.val c.D),some (.own (.anc a (stO { st with g:=(qt st.g st.b).2 }))),some (.val (.bool snd)),some (.val (.tuple [.int n,.int bg,.int t])),some (.val c.p.D),some (.val c.u.D),some (.val c.g.D),some (.val (.int n)),some (.val (.int bg)),some (.val (.int t)),some (.val (.str "held")),some (.val .none),none]) (λN hN=>?_) ?_
 ·simp only[stO]at hN ⊢
  cases eg:st.g with
  |op k=>
   rw[eg]at hN;simp only[Sg.D,qt]at hN ⊢;walk_at "ds";refine⟨3,_,ix4 rfl (by decide),rfl,_,yp _ _,?_⟩;walk_at "ds";rw[if_neg zlo];exact hN _ rfl
  |tr k w=>
   rw[eg]at hN;simp only[Sg.D,qt]at hN ⊢;walk_at "ds";refine⟨3,_,ix4 rfl (by decide),rfl,_,yp _ _,?_⟩;walk_at "ds";rw[if_neg zlp];exact hN _ rfl
  |sh u w=>
   rw[eg]at hN;simp only[Sg.D,qt]at hN ⊢;walk_at "ds";refine⟨3,_,ix4 rfl (by decide),rfl,_,yp _ _,?_⟩;walk_at "ds";refine⟨0,_,ix4 rfl (by decide),rfl,3,_,ix4 rfl (by decide),rfl,_,y4 _ _ _,?_⟩;walk_at "ds"
   by_cases cc:st.b<u
   ·rw[if_neg (by omega)];rw[if_pos cc]at hN;exact hN _ rfl
   ·rw[if_pos (by omega)];rw[if_neg cc]at hN;refine⟨3,_,ix4 rfl (by decide),rfl,_,v7 _ _ _ _,?_⟩;walk_at "ds";exact⟨3,_,ix4 rfl (by decide),rfl,hN _ rfl⟩
 rintro σ rfl;have hsh:∀s:Sg,∃(x:Str) (rest:List D),s.D=.tuple (.str x::rest)/\(x=Str.ofString "shut" ↔ s.shut=true):=λs=>by
  cases s with
  |op k=>exact⟨_,_,rfl,λz=>absurd z zlo,λz=>nomatch z⟩
  |tr k w=>exact⟨_,_,rfl,λz=>absurd z zlp,λz=>nomatch z⟩
  |sh u w=>exact⟨_,_,rfl,λ_=>rfl,λ_=>rfl⟩
 have hlet:(qt st.g st.b).2.shut = !(qt st.g st.b).1:=by
  cases eg:st.g with
  |op k=>rfl
  |tr k w=>rfl
  |sh u w=>
   simp only[qt]
   split <;> rfl
 refine zbz (λσ=>σ = [some (.val c.D),some (.own (.anc a (stO { st with g:=(kg c.g st.g st.b snd).2 }))),some (.val (.bool snd)),some (.val (.tuple [.int n,.int bg,.int t])),some (.val c.p.D),some (.val c.u.D),some (.val c.g.D),some (.val (.int n)),some (.val (.int bg)),some (.val (.int t)),some (.val (wdE (kg c.g st.g st.b snd).1)),some (.val .none),none]) (λN hN=>?_) ?_
 ·simp only[stO]at hN ⊢;obtain⟨x,rest,ex,ix⟩:=hsh (qt st.g st.b).2
  cases cl:(qt st.g st.b).1 with
  |false=>
   rw[zxm cl]at hN;rw[hlet,cl]at ix;have hx:=ix.mpr rfl;subst hx;simp only[ex]at hN ⊢;walk_at "ds";refine⟨3,_,ix4 rfl (by decide),rfl,_,yp _ _,?_⟩;walk_at "ds";exact hN _ rfl
  |true=>
   rw[zxl cl]at hN;rw[hlet,cl]at ix;have hx:¬ (x=Str.ofString "shut"):=λz=>nomatch ix.mp z;have go:∀d:D,(qt st.g st.b).2.D=d->d=.tuple (.str x::rest)->_:=λd e1 e2=>e1.trans e2;walk_at "ds";refine⟨3,_,ix4 rfl (by decide),rfl,?_⟩;rw[ex];refine⟨_,yp _ _,?_⟩;walk_at "ds";rw[if_pos hx,<-ex]
   cases snd with
   |true=>
    walk_at "ds";refine⟨3,_,ix4 rfl (by decide),rfl,0,_,ix4 rfl (by decide),rfl,c.g,_,st.b,true,rfl,o.g,lo.1,lo.2 cl,?_⟩;exact⟨3,_,ix4 rfl (by decide),rfl,hN _ rfl⟩
   |false=>
    walk_at "ds";refine⟨3,_,ix4 rfl (by decide),rfl,0,_,ix4 rfl (by decide),rfl,c.g,_,st.b,false,rfl,o.g,lo.1,lo.2 cl,?_⟩;exact⟨3,_,ix4 rfl (by decide),rfl,hN _ rfl⟩
 rintro σ rfl;have ends:∀(w':Option Bool),w'≠some true->(kg c.g st.g st.b snd).1=w'->Q (.tuple [.int n,wdE w',(whL c st.c st.b bg (t+1)).D]) (stO (zc8 c st (kg c.g st.g st.b snd).2 n bg t (whL c st.c st.b bg (t+1)))):=λw' hw hk=>by
  unfold wz at q;rw[hk,if_neg hw]at q;exact q
 have srv:(kg c.g st.g st.b snd).1=some true->Q (.tuple [.int n,.str "served",.none]) (stO { st with g:=(kg c.g st.g st.b snd).2 }):=λhk=>by
  unfold wz at q;rw[hk,if_pos rfl]at q;exact q
 clear q;generalize (kg c.g st.g st.b snd).2=g' at ends srv ⊢;generalize (kg c.g st.g st.b snd).1=w' at ends srv ⊢;have fin:∀(x:Str),wdE w'=.str x->w'≠some true->¬ (x=Str.ofString "served")->_:=λx ex hw hx=>(⟨x,ex,hw,hx⟩:∃x,wdE w'=.str x/\w'≠some true/\¬ (x=Str.ofString "served"))
 by_cases hw:w'=some true
 ·subst hw;have q:=srv rfl;simp only[wdE];walk_at "ds";exact⟨_,rfl,q⟩
 ·have hx:∃x,wdE w'=.str x/\¬ (x=Str.ofString "served"):=by
   cases w' with
   |none=>exact⟨_,rfl,zls⟩
   |some b=>
    cases b with
    |true=>exact absurd rfl hw
    |false=>exact⟨_,rfl,zlt⟩
  obtain⟨x,ex,hx⟩:=hx;have q:=ends w' hw rfl;clear ends srv fin;rw[ex]at q ⊢;unfold whL at q;simp only[stO,Pl.D,Ps.D]at q ⊢;walk_at "ds";rw[if_neg hx];refine⟨0,_,ix4 rfl (by decide),rfl,?_⟩;walk_at "ds";refine⟨_,yp _ _,c.p.g,t+1,rfl,o.p.g,by omega,by omega,?_⟩;walk_at "ds";refine⟨_,y4 _ _ _,?_⟩;walk_at "ds"
  by_cases c1:t+1=c.p.n
  ·rw[if_pos (by omega)];rw[if_pos c1]at q;exact⟨_,rfl,q⟩
  rw[if_neg (by omega)];rw[if_neg c1]at q;refine⟨_,v7 _ _ _ _,?_⟩;walk_at "ds"
  by_cases c2:bg+c.p.t<st.b+gp c.p.g ((t+1).toNat-1)
  ·rw[if_pos c2];rw[if_pos c2]at q;exact⟨_,rfl,q⟩
  rw[if_neg c2];rw[if_neg c2]at q;refine⟨2,_,ix4 rfl (by decide),rfl,?_⟩;walk_at "ds";refine⟨_,y4 _ _ _,?_⟩;walk_at "ds"
  by_cases c3:st.c<c.u.p
  ·rw[if_pos c3];rw[if_pos c3]at q;exact⟨_,rfl,q⟩
  rw[if_neg c3];rw[if_neg c3]at q;refine⟨2,_,ix4 rfl (by decide),rfl,?_⟩;walk_at "ds";refine⟨_,y4 _ _ _,?_⟩;walk_at "ds";refine⟨2,_,ix4 rfl (by decide),rfl,1,_,ix4 rfl (by decide),rfl,by rw[List.length_map];omega,_,rfl,?_⟩;simp only[zc8]at q;rw[List.map_append]at q;exact q
end
section
variable {P:Program}{w:World}{K:PySem.W.Frag}{mg:Str->Option Value}{base:Heap}{f:Addr}{fd:FuncData}
def zb3:DSp:=λws Q=>∃(c:Cl) (st:Sn) (snd:Bool) (m:Nat),ws = [.val c.D,.val st.D,.val (.bool snd),.val (.int m)]/\c.Ok/\Pa c st/\st.w.length<=24/\m<=8/\Q (.val (stD (vx c st snd m)))
def znd(b:Int)(ws:List En):List Tr:=(ws.filter λe=>decide (e.d=b)).map λe=>⟨e.n,e.b,e.t⟩
theorem zne(b:Int)(e:En)(ws:List En):znd b (e::ws)=if e.d=b then ⟨e.n,e.b,e.t⟩::znd b ws else znd b ws:=by
 unfold znd;rw[List.filter_cons]
 by_cases z:e.d=b
 ·rw[if_pos (decide_eq_true z),if_pos z,List.map_cons]
 ·rw[if_neg (by simpa using z),if_neg z]
theorem zuy(c:Cl)(s:Sn):va c s = { s with c:=min c.u.c (s.c+c.u.a),k:=s.k+1 }:=by
 unfold va;rw[Int.one_mul,Int.min_comm]
theorem zuz(a b c d:D):jb [a,b,c,d] (some 1) none = [b,c,d]:=by
 rw[zct _ (by decide)];rfl
theorem zg7(B:Blt mg)(F:Fun K "_law_step" "_law_step" x3 f fd)(C__law_try:Cal P w K mg base 2 "_law_try" ["_law_caller_here", "_law_state", "_law_sound", "_law_one"] (zle K zcw)):FnOk P w K mg base CX0 3 f fd ["_law_caller_here", "_law_standing", "_law_sound", "_law_many"] (yh K zb3):=by
 refine F.dok sc__law_step (λws Q h=>?_) (λcdv A outer s H ws Q E hr h=>?_)
 ·obtain⟨c,st,snd,m,rfl,_⟩:=h;rfl
 obtain⟨c,st,snd,m,rfl,o,pa,hl,hm,q⟩:=h;have os:=pa.ok;have os0:(y6 st).Ok c:=⟨os.b1,os.b2,λe he=>os.w e (List.mem_filter.mp he).1,os.c1,os.c2,os.g⟩
 have lr:(y6 st).w.length<=st.w.length:=List.length_filter_le _ _;have hdt:wg st=znd st.b st.w:=zg5 pa;have n1:=o.p.n1;simp only[Sn.D];refine⟨_,(zg (xq (zi 1) (yv (n:=5) rfl (ze (zf (i:=4) sc__law_step.nd rfl (Or.inr rfl)) (ze (zf (i:=5) sc__law_step.nd rfl (Or.inl rfl)) (ze (zf (i:=6) sc__law_step.nd rfl (Or.inl rfl)) (ze (zf (i:=7) sc__law_step.nd rfl (Or.inl rfl)) (ze (zf (i:=8) sc__law_step.nd rfl (Or.inl rfl)) yj))))))) (zg (zpi (i:=9) sc__law_step.nd rfl (Or.inr rfl) (zjk (zi 4) (zud (jv rfl (N':=["_law_one", "_law_beat"]) (capt:=["_law_beat"]) (k:=1) (js:=[4]) ⟨rfl,by decide,rfl,by decide,(.cons rfl .nil),rfl,(.cons rfl (Or.inl rfl) rfl (Or.inl rfl) .nil),rfl,by decide⟩ (wr (zb 5)) (λ_ _ _ _=>(zf (i:=0) (show List.Nodup (["_law_one", "_law_beat"]:List Str) by decide +kernel) rfl (Or.inl rfl) (Or.inr rfl))) (λ_ _ _ _=>(vk (ye zmk (DE.dv (z0 (zb 0) zc (λ_ _=>rfl))) (zb 1) (yd _)))) (λ_ _ _ _=>(zi 0))) (zjk (zi 6) (zjk (zi 7) zuc))))) (zg (zm5 9 1 (j:=10) sc__law_step.nd rfl (Or.inl rfl) rfl (N':=["_law_one", "_law_caller_here", "_law_state", "_law_sound", "_law_beat"]) (capt:=["_law_caller_here", "_law_state", "_law_sound", "_law_beat"]) (k:=1) (js:=[0,9,2,4]) ⟨rfl,by decide,rfl,by decide,(.cons rfl (.cons rfl (.cons rfl (.cons rfl .nil)))),rfl,(.cons rfl (Or.inl rfl) rfl (Or.inl rfl) (.cons rfl (Or.inl rfl) rfl (Or.inl rfl) (.cons rfl (Or.inl rfl) rfl (Or.inl rfl) (.cons rfl (Or.inl rfl) rfl (Or.inl rfl) .nil)))),rfl,by decide⟩ (zb8 (zi 5)) (λ_ _ _ _=>(zf (i:=0) (show List.Nodup (["_law_one", "_law_caller_here", "_law_state", "_law_sound", "_law_beat"]:List Str) by decide +kernel) rfl (Or.inl rfl) (Or.inr rfl))) (λ_ _ _ _=>(vk (ye (ja hr) (DE.dv (z0 (zb 0) zc (λ_ _=>rfl))) (zb 4) (yd _)))) (λ_ _ _ _=>(zh7 C__law_try hr rfl (zlh (zi 1) (zlg 2 (ym (zi 3) (ym (zhp (zb 0) (zdh zc) zkv) zy)))) (by decide) (by decide) rfl rfl))) (zg (qw PassesOwn.never rfl (v4 rfl B.range (za (zi 3) zm)) (zf (i:=11) sc__law_step.nd rfl (Or.inl rfl)) (zg (zdn 9 (yt (zaz rfl) rfl B.min boot_min (zp (DE.dv (z0 (DE.dv (z0 (zb 0) zc (λ_ _=>rfl))) zc (λ_ _=>rfl))) (zp (DE.dv (zx yn (jc 9 zc (λ_ _=>rfl)) (DE.dv (z0 (DE.dv (z0 (zb 0) zc (λ_ _=>rfl))) zc (λ_ _=>rfl))))) yf))) zc) (zh (zrf 10 (zh7 C__law_try hr rfl (zlh (zi 0) (zlg 9 (ym (zi 2) (ym (zv (za (zx yn (zb 8) (zb 11)) (za (zi 4) (za zc zm yr)))) zy zbm)))) (by decide) (by decide) rfl rfl))))) (zh (zw (zv (za (zv (za (zx yn (zb 4) (DE.dv zc)) (za (wo ku rfl B.tupleT boot_tuple (zp (DE.dv (DF.de (zbn zgw rfl B.sorted boot_sorted (zp (jc 9 zc (λ_ _=>rfl)) yf)))) yf)) (za (zgy 9 zc (λ_ _=>rfl)) (za (zgy 9 zc (λ_ _=>rfl)) (za (zx yn (zb 8) (zb 3)) zm)))))) (za (wo ku rfl B.tupleT boot_tuple (zp (zb 10) yf)) zm) zbm)))))))),?_⟩
 refine dseq_by (λσ=>σ = [some (.val c.D),some (.val st.D),some (.val (.bool snd)),some (.val (.int m)),some (.val (.int st.b)),some (.val (.tuple (st.w.map En.D))),some (.val (.int st.c)),some (.val st.g.D),some (.val (.int st.k)),none,none,none]) (λN hN=>?_) ?_
 ·walk_at "ds";exact hN _ rfl
 rintro σ rfl;refine dseq_by (λσ=>σ = [some (.val c.D),some (.val st.D),some (.val (.bool snd)),some (.val (.int m)),some (.val (.int st.b)),some (.val (.tuple (st.w.map En.D))),some (.val (.int st.c)),some (.val st.g.D),some (.val (.int st.k)),some (.own (stO (y6 st))),none,none]) (λN hN=>?_) ?_
 ·walk_at "ds";rw[List.length_map];refine⟨by omega,vo En.D (λe=>if st.b<e.d then some e.D else none) (λe he k hk=>?_) ?_⟩
  ·simp only[En.D,tD,En.l,List.map_cons,List.map_nil]at hk ⊢;walk_at "ds";refine⟨_,yp _ _,?_⟩;walk_at "ds"
   by_cases z:st.b<e.d
   ·rw[if_pos z]at hk ⊢;exact hk
   ·rw[if_neg z]at hk ⊢;exact hk
  ·have e2:st.w.filterMap (λe=>if st.b<e.d then some e.D else none)=(y6 st).w.map En.D:=by
    show _=(st.w.filter λe=>decide (st.b<e.d)).map En.D;generalize st.w=w
    induction w with
    |nil=>rfl
    |cons x w ih=>
     rw[List.filterMap_cons,List.filter_cons]
     by_cases z:st.b<x.d
     ·rw[if_pos z,if_pos (by simp[z]),ih];rfl
     ·rw[if_neg z,if_neg (by simp[z]),ih]
   rw[e2];walk_at "ds";exact hN _ rfl
 rintro σ rfl;refine dseq_by (λσ=>∃(s1:Sn) (es:List Ev),(s1,es)=wk c snd (wg st) (y6 st) []/\s1.Ok c/\s1.b=st.b/\s1.k=st.k/\s1.w.length<=50/\es.length<=50/\σ = [some (.val c.D),some (.val st.D),some (.val (.bool snd)),some (.val (.int m)),some (.val (.int st.b)),some (.val (.tuple (st.w.map En.D))),some (.val (.int st.c)),some (.val st.g.D),some (.val (.int st.k)),some (.own (stO s1)),some (.own (.lst (es.map Ev.D))),none]) (λN hN=>?_) ?_
 ·walk_at "ds";rw[List.length_map];refine⟨by omega,?_⟩;refine zpj (λds acc oo=>∃(ws:List En) (s1:Sn) (es:List Ev),ds=ws.map En.D/\acc=es.map Ev.D/\oo=stO s1/\(∀e∈ws,e∈st.w)/\s1.Ok c/\s1.b=st.b/\s1.k=st.k/\s1.w.length+ws.length<=50/\es.length+ws.length<=50/\wk c snd (znd st.b ws) s1 es=wk c snd (wg st) (y6 st) []) ?_ ?_ ⟨st.w,y6 st,[],rfl,rfl,rfl,λe h=>h,os0,rfl,rfl,by omega,by simp;omega,by rw[hdt]⟩
  ·intro d ds acc oo N2 zz k;refine gg λG zk=>?_;obtain⟨ws,s1,es,e,zs,zt,hw,o1,eb,ek,l1,l2,ed⟩:=zz;refine zk ?_;clear zk;subst zs zt
   cases ws with
   |nil=>cases e
   |cons x ws=>
    cases e;rw[List.length_cons]at l1 l2;have hx:=os.w x (hw x List.mem_cons_self);have hw':∀e∈ws,e∈st.w:=λe he=>hw e (List.mem_cons_of_mem _ he);rw[zne]at ed;simp only[En.D,tD,En.l,List.map_cons,List.map_nil];walk_at "ds";refine⟨_,yp _ _,?_⟩;walk_at "ds"
    by_cases z:x.d=st.b
    ·rw[if_pos z];rw[if_pos z,wk]at ed;have tb:=zep c s1 snd x.n x.b x.t;have tl:=zav c s1 snd x.n x.b x.t;have t1:=hx.t1;rw[zuz];refine⟨rfl,rfl,c,s1,snd,x.n,x.b,x.t,rfl,rfl,rfl,o,o1,by omega,hx.t2,by omega,?_⟩;exact k _ _ ⟨ws,(wz c s1 snd x.n x.b x.t).1,es ++ [(wz c s1 snd x.n x.b x.t).2],rfl,by rw[List.map_append];rfl,rfl,hw',zac o o1 (by omega) hx.t2,tb.1.trans eb,tb.2.trans ek,by omega,by simp;omega,ed⟩
    ·rw[if_neg z];rw[if_neg z]at ed;exact k _ _ ⟨ws,s1,es,rfl,rfl,rfl,hw',o1,eb,ek,by omega,by omega,ed⟩
  ·intro acc oo zz;refine gg λG zk=>?_;obtain⟨ws,s1,es,e,zs,zt,hw,o1,eb,ek,l1,l2,ed⟩:=zz;refine zk ?_;clear zk;subst zs zt
   cases ws with
   |cons x ws=>cases e
   |nil=>exact hN _ ⟨s1,es,ed,o1,eb,ek,by simpa using l1,by simpa using l2,rfl⟩
 intro σ zz;refine gg λG zk=>?_;obtain⟨s1,es,ed,o1,eb,ek,l1,l2,zs⟩:=zz;refine zk ?_;clear zk;subst zs;have q':Q (.val (stD (let r2:=vt c snd m st.k s1 es;({ r2.1 with b:=st.b+1,w:=qg En.l En.of r2.1.w },r2.2)))):=by
  have e1:s1=(wk c snd (wg st) (y6 st) []).1:=congrArg Prod.fst ed;have e2:es=(wk c snd (wg st) (y6 st) []).2:=congrArg Prod.snd ed;rw[e1,e2];exact q
 clear q ed;refine dseq_by (λσ=>∃(s2:Sn) (es2:List Ev) (u11:Option W),(s2,es2)=vt c snd m st.k s1 es/\s2.b=st.b/\s2.k=st.k+m/\s2.w.length<=60/\es2.length<=60/\σ = [some (.val c.D),some (.val st.D),some (.val (.bool snd)),some (.val (.int m)),some (.val (.int st.b)),some (.val (.tuple (st.w.map En.D))),some (.val (.int st.c)),some (.val st.g.D),some (.val (.int st.k)),some (.own (stO s2)),some (.own (.lst (es2.map Ev.D))),u11]) (λN hN=>?_) ?_
 ·simp only[Cl.D,Ps.D]at hN ⊢;walk_at "ds";refine⟨by omega,?_⟩;refine wj (λds σ=>∃(i j:Nat) (s2:Sn) (es2:List Ev) (u11:Option W),ds=y3 (i:Nat) j/\i+j=m/\s2.Ok c/\s2.b=st.b/\s2.k=st.k+i/\s2.w.length+j<=60/\es2.length+j<=60/\vt c snd j (st.k+i) s2 es2=vt c snd m st.k s1 es/\σ = [some (.val (.tuple [c.p.D,.tuple [.int c.u.a,.int c.u.p,.int c.u.c,.int c.u.f],c.g.D])),some (.val st.D),some (.val (.bool snd)),some (.val (.int m)),some (.val (.int st.b)),some (.val (.tuple (st.w.map En.D))),some (.val (.int st.c)),some (.val st.g.D),some (.val (.int st.k)),some (.own (stO s2)),some (.own (.lst (es2.map Ev.D))),u11]) ?_ ?_ ⟨0,m,s1,es,_,by rw[show((m:Int)).toNat=m by omega];rfl,by omega,o1,eb,by rw[ek];simp,by omega,by omega,by rw[show st.k+((0:Nat):Int)=st.k by simp],rfl⟩
  ·intro d ds σ N2 zz k;refine gg λG zk=>?_;obtain⟨i,j,s2,es2,u11,e,hij,o2,eb2,ek2,l3,l4,en,zs⟩:=zz;refine zk ?_;clear zk;subst zs
   cases j with
   |zero=>cases e
   |succ j=>
    rw[vf]at e
    cases e;rw[vt]at en;simp only[stO];walk_at "ds";refine⟨_,y4 _ _ _,_,v7 _ _ _ _,2,_,ix4 rfl (by decide),rfl,?_⟩;walk_at "ds";refine⟨_,y4 _ _ _,_,yp _ _,?_⟩;walk_at "ds";have tb:=zep c (va c s2) snd (st.k+i) s2.b 0;have tl:=zav c (va c s2) snd (st.k+i) s2.b 0;have al:(va c s2).w=s2.w:=rfl;have ab:(va c s2).b=s2.b:=rfl;have kk:(va c s2).k=s2.k+1:=rfl;rw[al]at tl;refine⟨2,_,ix4 rfl (by decide),rfl,?_⟩;refine⟨rfl,rfl,c,va c s2,snd,st.k+i,st.b,0,rfl,by rw[zuy];rfl,rfl,o,zbd o o2,by omega,by omega,by rw[al];omega,?_⟩;walk_at "ds";rw[<-eb2,List.length_map];refine⟨by omega,k _ ⟨i+1,j,(wz c (va c s2) snd (st.k+i) s2.b 0).1,es2 ++ [(wz c (va c s2) snd (st.k+i) s2.b 0).2],_,by rw[show((i+1:Nat):Int)=(i:Int)+1 by omega],by omega,zac o (zbd o o2) (by omega) (by omega),(tb.1.trans ab).trans eb2,by rw[tb.2,kk,ek2];omega,by omega,by simp;omega,by rw[show st.k+((i+1:Nat):Int)=st.k+i+1 by omega];exact en,by rw[List.map_append,eb2];rfl⟩⟩
  ·intro σ zz;refine gg λG zk=>?_;obtain⟨i,j,s2,es2,u11,e,hij,o2,eb2,ek2,l3,l4,en,zs⟩:=zz;refine zk ?_;clear zk;subst zs
   cases j with
   |succ j=>rw[vf]at e;cases e
   |zero=>exact hN _ ⟨s2,es2,u11,en,eb2,by rw[ek2];omega,by simpa using l3,by simpa using l4,rfl⟩
 intro σ zz;refine gg λG zk=>?_;obtain⟨s2,es2,u11,en,eb2,ek2,l3,l4,zs⟩:=zz;refine zk ?_;clear zk;subst zs;rw[<-en]at q';simp only[stO];walk_at "ds";refine⟨1,_,ix4 rfl (by decide),rfl,?_⟩;walk_at "ds";refine⟨by rw[List.length_map];omega,.inr ⟨s2.w.map En.l,by rw[List.map_map];rfl,λt ht=>?_,?_⟩⟩
 ·obtain⟨x,_,rfl⟩:=List.mem_map.mp ht;simp[En.l]
 ·rw[zeo En.of_l];walk_at "ds";refine⟨2,_,ix4 rfl (by decide),rfl,3,_,ix4 rfl (by decide),rfl,?_⟩;walk_at "ds";simp only[stD,Sn.D]at q';rw[ek2]at q';exact q'
end
section
variable {P:Program}{w:World}{K:PySem.W.Frag}{mg:Str->Option Value}{base:Heap}{f:Addr}{fd:FuncData}
def za2:DSp:=λws Q=>∃(c:Cl),ws = [.val c.D]/\Q (.val (zpr c).D)
theorem zfe(B:Blt mg)(F:Fun K "_law_first" "_law_first" xt f fd):FnOk P w K mg base CX0 1 f fd ["_law_caller_here"] (yh K za2):=by
 refine F.dok zfc (λws Q h=>?_) (λcdv A outer s H ws Q E hr h=>?_)
 ·obtain⟨c,rfl,_⟩:=h;rfl
 obtain⟨c,rfl,q⟩:=h;simp only[Cl.D,Ps.D];refine⟨_,(zh (zw (zv (za zc (za (zv zm) (za (z0 (DE.dv (z0 (zb 0) zc (λ_ _=>rfl))) zc (λ_ _=>rfl)) (za (zv (za y9 (za zc zm yr) yr)) (za zc zm yr) zbm)) zbm) yr)))),?_⟩;walk_at "ds";refine⟨_,y4 _ _ _,_,vc _ _ _ _ _,?_⟩;exact q
theorem zu0(w:Wt):Lay w.D:=by
 cases w with
 |non=>rfl
 |due d=>rfl
 |kno=>exact(zf6 (w:=.kno) trivial).lay (by decide)
 |tim=>exact(zf6 (w:=.tim) trivial).lay (by decide)
 |pur=>exact(zf6 (w:=.pur) trivial).lay (by decide)
theorem zwn:Lay (.tuple [.str "knocks",.str "time",.str "purse"]):=(Sh.tup (n:=41) (k:=1) (m:=3) (kh (zf6 (w:=.kno) trivial) (kh (zf6 (w:=.tim) trivial) (kh (zf6 (w:=.pur) trivial) zij))) (Nat.le_refl 3)).lay (by decide)
def zag:DSp:=λws Q=>∃(es:List Ev),ws = [.val (.tuple (es.map Ev.D))]/\es.length<=1000/\Q (.new [.int (zke es),.int (znb es),.int (znc es)])
theorem zkg{α:Type}(p:α->Bool)(xs:List α):(xs.filterMap λx=>if p x=true then some (PyData.int 1) else none).length=xs.countP p:=by
 induction xs with
 |nil=>rfl
 |cons x xs ih=>
  rw[List.filterMap_cons,List.countP_cons]
  cases z:p x with
  |true=>simp only[if_true,List.length_cons];rw[ih]
  |false=>simp only[Bool.false_eq_true,if_false];rw[ih];rfl
theorem zwo(w:Wt):inD w.D [.str "knocks",.str "time",.str "purse"]=zik w:=by
 cases w with
 |non=>rfl
 |due d=>rfl
 |kno=>decide +kernel
 |tim=>decide +kernel
 |pur=>decide +kernel
theorem zev(B:Blt mg)(F:Fun K "_law_counts" "_law_counts" xo f fd):FnOk P w K mg base CX0 1 f fd ["_law_events"] (yh K zag):=by
 refine F.dok sc__law_counts (λws Q h=>?_) (λcdv A outer s H ws Q E hr h=>?_)
 ·obtain⟨es,rfl,_⟩:=h;rfl
 obtain⟨es,rfl,hl,q⟩:=h;refine⟨_,(zg (yu (i:=1) sc__law_counts.nd rfl (Or.inl rfl) (yt zbo rfl B.len PySem.boot_len (zp (DE.dv (DF.de (jv rfl (N':=["_law_number", "_law_word", "_law_what"]) (capt:=[]) (k:=3) (js:=[]) ⟨rfl,by decide,rfl,by decide,.nil,rfl,.nil,rfl,by decide⟩ (wr (zb 0)) (λ_ _ _ _=>(yv (n:=3) rfl (ze (zf (i:=0) (show List.Nodup (["_law_number", "_law_word", "_law_what"]:List Str) by decide +kernel) rfl (Or.inl rfl) (Or.inr rfl)) (ze (zf (i:=1) (show List.Nodup (["_law_number", "_law_word", "_law_what"]:List Str) by decide +kernel) rfl (Or.inl rfl) (Or.inr rfl)) (ze (zf (i:=2) (show List.Nodup (["_law_number", "_law_word", "_law_what"]:List Str) by decide +kernel) rfl (Or.inl rfl) (Or.inr rfl)) yj))))) (λ_ _ _ _=>(vk (ye (zgi hr) (zb 1) (DE.dv y9) (yd _)))) (λ_ _ _ _=>zc)))) yf))) (zg (yu (i:=2) sc__law_counts.nd rfl (Or.inl rfl) (yt zbo rfl B.len PySem.boot_len (zp (DE.dv (DF.de (jv rfl (N':=["_law_number", "_law_word", "_law_what"]) (capt:=[]) (k:=3) (js:=[]) ⟨rfl,by decide,rfl,by decide,.nil,rfl,.nil,rfl,by decide⟩ (wr (zb 0)) (λ_ _ _ _=>(yv (n:=3) rfl (ze (zf (i:=0) (show List.Nodup (["_law_number", "_law_word", "_law_what"]:List Str) by decide +kernel) rfl (Or.inl rfl) (Or.inr rfl)) (ze (zf (i:=1) (show List.Nodup (["_law_number", "_law_word", "_law_what"]:List Str) by decide +kernel) rfl (Or.inl rfl) (Or.inr rfl)) (ze (zf (i:=2) (show List.Nodup (["_law_number", "_law_word", "_law_what"]:List Str) by decide +kernel) rfl (Or.inl rfl) (Or.inr rfl)) yj))))) (λ_ _ _ _=>(vk (ye (ja hr) (zb 1) (DE.dv y9) (yd _)))) (λ_ _ _ _=>zc)))) yf))) (zh (zkz (vi (za (zi 1) (za (zi 2) (za (yt zbo rfl B.len PySem.boot_len (zp (DE.dv (DF.de (jv rfl (N':=["_law_number", "_law_word", "_law_what"]) (capt:=[]) (k:=3) (js:=[]) ⟨rfl,by decide,rfl,by decide,.nil,rfl,.nil,rfl,by decide⟩ (wr (zb 0)) (λ_ _ _ _=>(yv (n:=3) rfl (ze (zf (i:=0) (show List.Nodup (["_law_number", "_law_word", "_law_what"]:List Str) by decide +kernel) rfl (Or.inl rfl) (Or.inr rfl)) (ze (zf (i:=1) (show List.Nodup (["_law_number", "_law_word", "_law_what"]:List Str) by decide +kernel) rfl (Or.inl rfl) (Or.inr rfl)) (ze (zf (i:=2) (show List.Nodup (["_law_number", "_law_word", "_law_what"]:List Str) by decide +kernel) rfl (Or.inl rfl) (Or.inr rfl)) yj))))) (λ_ _ _ _=>(vk (ye (zxb hr) (zb 2) (DE.dv (zv (za y9 (za y9 (za y9 zm yr) yr) yr))) rfl))) (λ_ _ _ _=>zc)))) yf)) zm)))))))),?_⟩
 walk_at "ds";rw[List.length_map];refine⟨by omega,vo Ev.D (λe=>if e.w.isSome=true then some (PyData.int 1) else none) (λe _ k hk=>?_) ?_⟩
 ·simp only[Ev.D]
  cases z:e.w with
  |none=>
   rw[z]at hk;simp only[wdE];walk_at "ds";exact hk
  |some b=>
   rw[z]at hk
   cases b with
   |true=>
    simp only[wdE];walk_at "ds";rw[if_pos zsg];exact hk
   |false=>
    simp only[wdE];walk_at "ds";rw[if_pos zsh];exact hk
 rw[zkg (λe:Ev=>e.w.isSome)];walk_at "ds";refine⟨by omega,vo Ev.D (λe=>if zrp e.w=true then some (PyData.int 1) else none) (λe _ k hk=>?_) ?_⟩
 ·simp only[Ev.D]
  cases z:e.w with
  |none=>
   rw[z]at hk;simp only[wdE];walk_at "ds";rw[if_neg zls];exact hk
  |some b=>
   rw[z]at hk
   cases b with
   |true=>
    simp only[wdE];walk_at "ds";exact hk
   |false=>
    simp only[wdE];walk_at "ds";rw[if_neg zlt];exact hk
 rw[zkg (λe:Ev=>zrp e.w)];walk_at "ds";refine⟨by omega,vo Ev.D (λe=>if zik e.t=true then some (PyData.int 1) else none) (λe _ k hk=>?_) ?_⟩
 ·simp only[Ev.D];walk_at "ds";refine⟨zu0 _,zwn,?_⟩;rw[zwo]
  cases z:zik e.t with
  |true=>rw[z]at hk;walk_at "ds";exact hk
  |false=>rw[z]at hk;walk_at "ds";exact hk
 rw[zkg (λe:Ev=>zik e.t)];exact q
def bt(N i:Nat):Bool:=decide (N / 2 ^ i % 2=1)
theorem zxn(m:Nat):Builtin.bitAnd (m:Int) 1=((m % 2:Nat):Int):=by
 rw[bitAnd_pp (by omega) (by decide)];simp[Nat.and_one_is_mod]
theorem zg8(N i:Nat):Builtin.bitAnd ((N:Int) / 2 ^ i) 1=((N / 2 ^ i % 2:Nat):Int):=by
 rw[show((N:Int) / 2 ^ i)=((N / 2 ^ i:Nat):Int) by simp,zxn]
def zb4:DSp:=λws Q=>∃(c:Cl) (bs:List Int) (N:Nat),ws = [.val c.D,.val (.tuple (bs.map PyData.int)),.val (.int N)]/\c.Ok/\Bg bs/\Q (.val (ko c (λb=>!bt N b.toNat) bs 0 (zc9 c)).D)
theorem zg9(B:Blt mg)(F:Fun K "_law_gone" "_law_gone" x4 f fd)(C__law_step:Cal P w K mg base 3 "_law_step" ["_law_caller_here", "_law_standing", "_law_sound", "_law_many"] (yh K zb3))(C__law_first:Cal P w K mg base 1 "_law_first" ["_law_caller_here"] (yh K za2))(C__law_counts:Cal P w K mg base 1 "_law_counts" ["_law_events"] (yh K zag)):FnOk P w K mg base CX0 4 f fd ["_law_caller_here", "_law_beginnings_here", "_law_number"] (yh K zb4):=by
 refine F.dok sc__law_gone (λws Q h=>?_) (λcdv A outer s H ws Q E hr h=>?_)
 ·obtain⟨c,bs,N,rfl,_⟩:=h;rfl
 obtain⟨c,bs,NN,rfl,o,bg,q⟩:=h;have ln:=bg.ln;refine⟨_,(zg (zoo (i:=3) (j:=4) rfl sc__law_gone.nd rfl rfl (by decide) rfl rfl (za (zq C__law_first hr rfl (zn 0 zy)) (za (DF.de (vi (za zc (za zc (za zc zm yr) yr) yr))) zm zv1)) rfl) (zg (qw PassesOwn.never rfl (zd2 rfl B.enumerate (za (zi 1) zm)) (yv (n:=2) rfl (ze (zf (i:=5) sc__law_gone.nd rfl (Or.inl rfl)) (ze (zf (i:=6) sc__law_gone.nd rfl (Or.inl rfl)) yj))) (zg (xq (zq C__law_step hr rfl (zn 0 (zn 3 (ym (zi9 (ja hr) (DE.dv (zx zn7 (DE.dv (zx zkt (zb 2) (zb 5))) (DE.dv zc))) (DE.dv zc) (yd _)) (zn 6 zy))))) (yv (n:=2) rfl (ze (zf (i:=3) sc__law_gone.nd rfl (Or.inl rfl)) (ze (zf (i:=7) sc__law_gone.nd rfl (Or.inl rfl)) yj)))) (zh (j8 (i:=4) sc__law_gone.nd rfl (Or.inl rfl) rfl (N':=["_law_one", "_law_more"]) (capt:=[]) (k:=2) (js:=[]) ⟨rfl,by decide,rfl,by decide,.nil,rfl,.nil,rfl,by decide⟩ (zqt rfl B.zip (zp (zb 4) (zp (DE.dv (zq C__law_counts hr rfl (zn 7 zy))) yf))) (λ_ _ _ _=>(yv (n:=2) rfl (ze (zf (i:=0) (show List.Nodup (["_law_one", "_law_more"]:List Str) by decide +kernel) rfl (Or.inl rfl) (Or.inr rfl)) (ze (zf (i:=1) (show List.Nodup (["_law_one", "_law_more"]:List Str) by decide +kernel) rfl (Or.inl rfl) (Or.inr rfl)) yj)))) (λ_ _ _ _=>qi) (λ_ _ _ _=>(zx yn (zb 0) (zb 1))))))) (zh (zw (zv (za (zi 3) (za (z0 (zb 4) zc (λ_ _=>rfl)) (za (z0 (zb 4) zc (λ_ _=>rfl)) (za (z0 (zb 4) zc (λ_ _=>rfl)) zm))))))))),?_⟩;walk_at "ds";refine⟨c,rfl,?_⟩;walk_at "ds";refine wj (λds σ=>∃(ms:List Int) (i:Nat) (t:Td) (u5 u6 u7:Option W),ds=vj i (ms.map PyData.int)/\Gd c i t/\(∀m∈ms,0<=m/\m<=3)/\(i:Int)+ms.length<=8/\ko c (λb=>!bt NN b.toNat) ms i t=ko c (λb=>!bt NN b.toNat) bs 0 (zc9 c)/\σ = [some (.val c.D),some (.val (.tuple (bs.map PyData.int))),some (.val (.int NN)),some (.val t.s.D),some (.val (.list [.int t.k,.int t.v,.int t.l])),u5,u6,u7]) ?_ ?_ ⟨bs,0,zc9 c,_,_,_,rfl,Gd.fir o,bg.lo,by omega,rfl,rfl⟩
 ·intro d ds σ N zz k;refine gg λG zk=>?_;obtain⟨ms,i,t,u5,u6,u7,e,g,hm,hj,er,zs⟩:=zz;refine zk ?_;clear zk;subst zs
  cases ms with
  |nil=>cases e
  |cons m ms=>
   rw[List.map_cons,vj]at e
   cases e;rw[List.length_cons]at hj;have h0:=hm m List.mem_cons_self;have st':=g.step o (by omega) (!bt NN i) (m:=m.toNat) (by omega);have h1:=g.k;have h2:=g.w;walk_at "ds";refine⟨by omega,?_⟩;rw[show((i:Int)).toNat=i by omega,zg8];refine⟨c,t.s,!bt NN i,m.toNat,?_,o,g.pa,by omega,by omega,?_⟩
   ·rw[show((m.toNat:Nat):Int)=m by omega]
    have e3:decide (((NN / 2 ^ i % 2:Nat):Int)=0) = !bt NN i:=by
     unfold bt
     by_cases z:NN / 2 ^ i % 2=1
     ·rw[decide_eq_true z,decide_eq_false (by omega)];rfl
     ·rw[decide_eq_false z,decide_eq_true (by omega)];rfl
    rw[<-e3]
   have er':ko c (λb=>!bt NN b.toNat) ms (i+1) (tbL c t (!bt NN i) m.toNat)=ko c (λb=>!bt NN b.toNat) bs 0 (zc9 c):=er;have g':=st'.1;have hl:=st'.2;unfold tbL at er' g';generalize vx c t.s (!bt NN i) m.toNat=r at er' g' hl;simp only[stD];walk_at "ds";refine⟨r.2,rfl,by omega,?_⟩;simp only[zb9,List.zipWith_cons_cons,List.zipWith_nil_left,List.zipWith_nil_right];walk_at "ds";unfold lcD lcD lcD lcD;walk_at "ds";exact k _ ⟨ms,i+1,⟨r.1,t.k+zke r.2,t.v+znb r.2,t.l+znc r.2⟩,_,_,_,rfl,g',λx hx=>hm x (List.mem_cons_of_mem _ hx),by omega,er',rfl⟩
 ·intro σ zz;refine gg λG zk=>?_;obtain⟨ms,i,t,u5,u6,u7,e,g,hm,hj,er,zs⟩:=zz;refine zk ?_;clear zk;subst zs
  cases ms with
  |cons m ms=>rw[List.map_cons,vj]at e;cases e
  |nil=>
   rw[<-er]at q;walk_at "ds";exact⟨_,yp _ _,_,y4 _ _ _,_,v7 _ _ _ _,q⟩
def zcl(acc:List (Int×Int))(b:Int):List (Int×Int):=match acc.getLast? with
 |some r=>if r.2=b then acc.dropLast ++ [(r.1,b+1)] else acc ++ [(b,b+1)]
 |none=>[(b,b+1)]
theorem zah(b:Int):zcl [] b = [(b,b+1)]:=rfl
theorem zai(acc:List (Int×Int))(r:Int×Int)(b:Int):zcl (acc ++ [r]) b=if r.2=b then acc ++ [(r.1,b+1)] else acc ++ [r] ++ [(b,b+1)]:=by
 unfold zcl;rw[List.getLast?_append];simp
theorem ki{α:Type}(xs:List α):xs = []\/∃ys y,xs=ys ++ [y]:=by
 rcases List.eq_nil_or_concat xs with h |⟨ys,y,h⟩
 ·exact .inl h
 ·exact .inr ⟨ys,y,by rw[h,List.concat_eq_append]⟩
structure StB(s:List (Int×Int))(n:Int):Prop where
 r:∀r∈s,0<=r.1/\r.1<r.2/\r.2<=n
 l:(s.length:Int)<=n
theorem StB.add{s:List (Int×Int)}{n:Int}(h:StB s n)(h0:0<=n):StB (zcl s n) (n+1)/\∀y,zbc (zcl s n) y=(zbc s y || decide (y=n)):=by
 have hl:=h.l;rcases ki s with rfl |⟨t,r,rfl⟩
 ·rw[zah];refine⟨⟨λr hr=>?_,by simp at hl ⊢;omega⟩,λy=>?_⟩
  ·cases List.mem_singleton.mp hr;simp only[];omega
  ·simp only[zbc,List.any_cons,List.any_nil,Bool.or_false,Bool.false_or];exact decide_eq_decide.mpr (by omega)
 ·have hr:=h.r r (by simp);rw[List.length_append,List.length_singleton]at hl;rw[zai]
  split
  ·next z=>
   refine⟨⟨λx hx=>?_,by simp;omega⟩,λy=>?_⟩
   ·rcases List.mem_append.mp hx with hx|hx
    ·have:=h.r x (by simp[hx]);omega
    ·cases List.mem_singleton.mp hx;simp only[];omega
   ·simp only[zbc,List.any_append,List.any_cons,List.any_nil,Bool.or_false,Bool.or_assoc];congr 1;rw[Bool.eq_iff_iff];simp only[Bool.or_eq_true,decide_eq_true_eq];omega
  ·refine⟨⟨λx hx=>?_,by simp;omega⟩,λy=>?_⟩
   ·rcases List.mem_append.mp hx with hx|hx
    ·have:=h.r x hx;omega
    ·cases List.mem_singleton.mp hx;simp only[];omega
   ·simp only[zbc,List.any_append,List.any_cons,List.any_nil,Bool.or_false,Bool.or_assoc];congr 2;exact decide_eq_decide.mpr (by omega)
theorem StB.more{s:List (Int×Int)}{n m:Int}(h:StB s n)(hm:n<=m):StB s m:=⟨λr hr=>by have:=h.r r hr;omega,by have:=h.l;omega⟩
def stN(N:Nat):Nat->List (Int×Int)
 |0=>[]
 |n+1=>if bt N n=true then zcl (stN N n) n else stN N n
theorem zcm(N:Nat):∀n:Nat,StB (stN N n) n/\∀y:Int,zbc (stN N n) y=(decide (0<=y) && decide (y<n) && bt N y.toNat)
 |0=>by
  refine⟨⟨λr hr=>(by cases hr),Int.le_refl 0⟩,λy=>?_⟩;show false=_
  by_cases z:0<=y
  ·have:¬ (y<((0:Nat):Int)):=by omega
   rw[decide_eq_false this];simp
  ·rw[decide_eq_false z];rfl
 |n+1=>by
  obtain⟨h1,h2⟩:=zcm N n;simp only[stN]
  split
  ·next z=>
   obtain⟨h3,h4⟩:=h1.add (by omega);refine⟨h3,λy=>?_⟩;rw[h4,h2]
   by_cases e:y=n
   ·subst e;simp only[Int.toNat_natCast,z,decide_true,Bool.or_true,Bool.and_true];rw[decide_eq_true (by omega),decide_eq_true (by omega)];rfl
   ·rw[decide_eq_false e,Bool.or_false];congr 2;exact decide_eq_decide.mpr (by omega)
  ·next z=>
   refine⟨h1.more (by omega),λy=>?_⟩;rw[h2]
   by_cases e:y=n
   ·subst e;have z':bt N n=false:=by simpa using z
    simp only[Int.toNat_natCast,z',Bool.and_false]
   ·congr 2;exact decide_eq_decide.mpr (by omega)
theorem zrs(s:List (Int×Int)):Lay (.list (s.map pD)):=Lay.list λx hx=>by
 obtain⟨r,_,rfl⟩:=List.mem_map.mp hx;exact⟨zmr [r.1,r.2],Nat.le_of_ble_eq_true rfl⟩
theorem zin{α:Type}(xs:List α)(x:α):ixN (xs ++ [x]).length (-1)=some xs.length:=by
 unfold ixN;simp;omega
theorem zlx{α:Type}(xs:List α)(x y:α):(xs ++ [x]).set xs.length y=xs ++ [y]:=by simp
def jz:DSp:=λws Q=>∃(N:Nat),ws = [.val (.int N)]/\Q (.val (.tuple ((stN N 25).map pD)))
theorem zda(B:Blt mg)(F:Fun K "_law_by_bits" "_law_by_bits" xi f fd):FnOk P w K mg base CX0 1 f fd ["_law_number"] (yh K jz):=by
 refine F.dok sc__law_by_bits (λws Q h=>?_) (λcdv A outer s H ws Q E hr h=>?_)
 ·obtain⟨N,rfl,_⟩:=h;rfl
 obtain⟨NN,rfl,q⟩:=h;refine⟨_,(zg (zdj (i:=1) sc__law_by_bits.nd rfl (Or.inl rfl) (vi zm)) (zg (qw PassesOwn.never rfl (v4 rfl B.range (za zc zm yr)) (zf (i:=2) sc__law_by_bits.nd rfl (Or.inl rfl)) (zh (xa (ye (ja hr) (DE.dv (zx zn7 (DE.dv (zx zkt (zb 0) (zb 2))) (DE.dv zc))) (DE.dv zc) (yd _)) (zh (xa (DWt.dt (zgh (ye (zgi hr) (zb 1) (DE.dv (DF.de (vi zm))) (yd _)) (zdg (ye (ja hr) (DE.dv (z0 (DE.dv (z0 (zb 1) (jn zc) (λ_ _=>rfl))) zc (λ_ _=>rfl))) (zb 2) (yd _))))) (zh (zk0 1 (zv (za (z0 (DE.dv (z0 (zb 1) (jn zc) (λ_ _=>rfl))) zc (λ_ _=>rfl)) (za (zx yn (zb 2) (DE.dv zc)) zm))) (jn zc))) (zh (jg 1 (zv (za (zi 2) (za (zx yn (zb 2) (DE.dv zc)) zm))))))) yo))) (zh (zw (wo ku rfl B.tupleT boot_tuple (zp (zb 1) yf)))))),?_⟩;walk_at "ds";refine⟨by decide,?_⟩;refine wj (λds σ=>∃(i j:Nat) (u2:Option W),ds=y3 (i:Nat) j/\i+j=25/\σ = [some (.val (.int NN)),some (.own (.lst ((stN NN i).map pD))),u2]) ?_ ?_ ⟨0,25,_,rfl,rfl,rfl⟩
 ·rintro d ds σ N ⟨i,j,u2,e,hij,rfl⟩ k
  cases j with
  |zero=>cases e
  |succ j=>
   rw[vf]at e
   cases e;have sb:=(zcm NN i).1.l;walk_at "ds";refine⟨by omega,?_⟩;rw[show((i:Int)).toNat=i by omega,zg8];have e3:(((NN / 2 ^ i % 2:Nat):Int)=1)↔bt NN i=true:=by
    unfold bt;rw[decide_eq_true_eq];omega
   have fin:∀s',stN NN (i+1)=s'->N [some (.val (.int NN)),some (.own (.lst (s'.map pD))),some (.val (.int i))]:=λs' es=>by
    subst es;exact k _ ⟨i+1,j,_,by rw[show((i+1:Nat):Int)=(i:Int)+1 by omega],by omega,rfl⟩
   by_cases z:bt NN i=true
   ·rw[if_pos (e3.mpr z)];have es:stN NN (i+1)=zcl (stN NN i) i:=by simp only[stN];rw[if_pos z]
    rw[es]at fin;rcases ki (stN NN i) with hs |⟨t,r,hs⟩
    ·rw[hs]at fin ⊢;walk_at "ds";refine⟨rfl,rfl,?_⟩;rw[if_neg (by decide)];exact⟨by decide,fin _ (zah _)⟩
    ·rw[hs]at fin sb ⊢;rw[List.length_append,List.length_singleton]at sb;walk_at "ds";refine⟨zrs _,rfl,?_⟩
     have ne:PyData.eqv (.list ((t ++ [r]).map pD)) (.list [])=false:=by
      cases t <;> simp[PyData.eqv,PyData.eqvAll]
     rw[if_pos ne,List.map_append,List.map_cons,List.map_nil];refine⟨_,atI_end _ _,?_⟩;simp only[pD];walk_at "ds";refine⟨_,y4 _ _ _,?_⟩;walk_at "ds";have ea:=zai t r i
     by_cases c2:r.2=i
     ·rw[if_pos c2];rw[if_pos c2]at ea;refine⟨_,atI_end _ _,?_⟩;walk_at "ds";refine⟨_,yp _ _,_,zin _ _,?_⟩;rw[zlx];have:=fin _ ea;rw[List.map_append]at this;exact this
     ·rw[if_neg c2];rw[if_neg c2]at ea;have:=fin _ ea;rw[List.map_append,List.map_append]at this;exact⟨by simp;omega,this⟩
   ·rw[if_neg (λh=>z (e3.mp h))];exact fin _ (by simp only[stN];rw[if_neg z])
 ·rintro σ ⟨i,j,u2,e,hij,rfl⟩
  cases j with
  |succ j=>rw[vf]at e;cases e
  |zero=>
   have:i=25:=by omega
   subst this;exact q
end
section
variable {P:Program}{w:World}{K:PySem.W.Frag}{mg:Str->Option Value}{base:Heap}{f:Addr}{fd:FuncData}
def zaj:DSp:=λws Q=>ws = [.pen]/\∀c:Cl,c.Ok->Q (.val c.D)
theorem zew(B:Blt mg)(F:Fun K "_law_caller" "_law_caller" xn f fd)(C__law_draw:Cal P w K mg base 2 "_law_draw" ["_law_pen", "_law_many"] (yh K vm)):FnOk P w K mg base CX0 3 f fd ["_law_pen"] (yh K zaj):=by
 refine F.dok sc__law_caller (λws Q h=>?_) (λcdv A outer s H ws Q E hr h=>?_)
 ·obtain⟨rfl,_⟩:=h;rfl
 obtain⟨rfl,q⟩:=h;refine⟨_,(zg (yu (i:=1) sc__law_caller.nd rfl (Or.inl rfl) (zv (za (zx yn (DE.dv zc) (DE.dv (zq C__law_draw hr rfl (zn 0 (ym zc zy yr))))) (za (zx yn (DE.dv zc) (DE.dv (zq C__law_draw hr rfl (zn 0 (ym zc zy yr))))) (za (zq C__law_draw hr rfl (zn 0 (ym zc zy yr))) (za (zx yn (DE.dv zc) (DE.dv (zq C__law_draw hr rfl (zn 0 (ym zc zy yr))))) zm)))))) (zg (yu (i:=2) sc__law_caller.nd rfl (Or.inl rfl) (zv (za (zi 1) (za (zx yn (DE.dv zc) (DE.dv (zq C__law_draw hr rfl (zn 0 (ym zc zy yr))))) (za (zq C__law_draw hr rfl (zn 0 (ym zc zy yr))) zm))))) (zg (zoo (i:=3) (j:=4) rfl sc__law_caller.nd rfl rfl (by decide) rfl rfl (za (zq C__law_draw hr rfl (zn 0 (ym zc zy yr))) (za (zx yn (DE.dv zc) (DE.dv (zq C__law_draw hr rfl (zn 0 (ym zc zy yr))))) zm)) rfl) (zg (yu (i:=5) sc__law_caller.nd rfl (Or.inl rfl) (zv (za (zq C__law_draw hr rfl (zn 0 (ym zc zy yr))) (za (zx yn (DE.dv zc) (DE.dv (zq C__law_draw hr rfl (zn 0 (ym zc zy yr))))) (za (zi 3) (za (zq C__law_draw hr rfl (zn 0 (ym (zx yn (zb 3) (DE.dv zc)) zy))) zm)))))) (zg (yu (i:=6) sc__law_caller.nd rfl (Or.inl rfl) (zv (za (zx yn (DE.dv zc) (DE.dv (zq C__law_draw hr rfl (zn 0 (ym zc zy yr))))) (za (zi 4) (za (zx yn (DE.dv zc) (DE.dv (zq C__law_draw hr rfl (zn 0 (ym zc zy yr))))) (za (zx yn (zb 4) (DE.dv (zq C__law_draw hr rfl (zn 0 (ym zc zy yr))))) (za (zx yn (DE.dv zc) (DE.dv (zq C__law_draw hr rfl (zn 0 (ym zc zy yr))))) zm))))))) (zh (zw (zv (za (zi 2) (za (zi 5) (za (zi 6) zm))))))))))),?_⟩;walk_at "ds";refine qb (by first|decide|omega) (by first|decide|omega) λg1 lg1 hg1=>?_;walk_at "ds";refine qb (by first|decide|omega) (by first|decide|omega) λg2 lg2 hg2=>?_;walk_at "ds";refine qb (by first|decide|omega) (by first|decide|omega) λg3 lg3 hg3=>?_;walk_at "ds";refine qb (by first|decide|omega) (by first|decide|omega) λg4 lg4 hg4=>?_;walk_at "ds";refine qb (by first|decide|omega) (by first|decide|omega) λkn lkn hkn=>?_;walk_at "ds";refine qb (by first|decide|omega) (by first|decide|omega) λtm ltm htm=>?_;walk_at "ds"
 refine qb (by first|decide|omega) (by first|decide|omega) λcp lcp hcp=>?_;walk_at "ds";refine qb (by first|decide|omega) (by first|decide|omega) λrs lrs hrs=>?_;walk_at "ds";refine qb (by first|decide|omega) (by first|decide|omega) λpa lpa hpa=>?_;walk_at "ds";refine qb (by first|decide|omega) (by first|decide|omega) λpr lpr hpr=>?_;walk_at "ds";refine qb (by first|decide|omega) (by first|decide|omega) λfi lfi hfi=>?_;walk_at "ds";refine qb (by first|decide|omega) (by first|decide|omega) λfa lfa hfa=>?_;walk_at "ds";refine qb (by first|decide|omega) (by first|decide|omega) λti lti hti=>?_;walk_at "ds";refine qb (by first|decide|omega) (by first|decide|omega) λmo lmo hmo=>?_;walk_at "ds";refine qb (by first|decide|omega) (by first|decide|omega) λtr ltr htr=>?_;walk_at "ds";exact q ⟨⟨⟨1+g1,1+g2,g3,1+g4⟩,1+kn,tm⟩,⟨pa,1+pr,cp,fi⟩,⟨1+fa,1+rs,1+ti,1+rs+mo,1+tr⟩⟩ ⟨⟨⟨by simp only[];omega,by simp only[];omega,by simp only[];omega,by simp only[];omega,by simp only[];omega,by simp only[];omega,by simp only[];omega,by simp only[];omega⟩,by simp only[];omega,by simp only[];omega,by simp only[];omega,by simp only[];omega⟩,by simp only[];omega,⟨by simp only[];omega,by simp only[];omega,by simp only[];omega,by simp only[];omega,by simp only[];omega,by simp only[];omega,by simp only[];omega,by simp only[];omega⟩,⟨by simp only[];omega,by simp only[];omega,by simp only[];omega,by simp only[];omega,by simp only[];omega,by simp only[];omega,by simp only[];omega,by simp only[];omega,by simp only[];omega⟩⟩
def kj:DSp:=λws Q=>ws = [.pen]/\∀bs:List Int,Bg bs->1<=bs.length->Q (.val (.tuple (bs.map PyData.int)))
theorem zbg(B:Blt mg)(F:Fun K "_law_beginnings" "_law_beginnings" yx f fd)(C__law_draw:Cal P w K mg base 2 "_law_draw" ["_law_pen", "_law_many"] (yh K vm)):FnOk P w K mg base CX0 3 f fd ["_law_pen"] (yh K kj):=by
 refine F.dok zbb (λws Q h=>?_) (λcdv A outer s H ws Q E hr h=>?_)
 ·obtain⟨rfl,_⟩:=h;rfl
 obtain⟨rfl,q⟩:=h;refine⟨_,(zh (zw (wo ku rfl B.tupleT boot_tuple (zp (DE.dv (DF.de (jv rfl (N':=["_law_beat", "_law_pen"]) (capt:=["_law_pen"]) (k:=1) (js:=[0]) ⟨rfl,by decide,rfl,by decide,(.cons rfl .nil),rfl,(.cons rfl (Or.inl rfl) rfl (Or.inl rfl) .nil),rfl,by decide⟩ (DI.w (v4 rfl B.range (za (zx yn (DE.dv zc) (DE.dv (zq C__law_draw hr rfl (zn 0 (ym zc zy yr))))) zm))) (λ_ _ _ _=>(zf (i:=0) (show List.Nodup (["_law_beat", "_law_pen"]:List Str) by decide +kernel) rfl (Or.inl rfl) (Or.inr rfl))) (λ_ _ _ _=>qi) (λ_ _ _ _=>(zq C__law_draw hr rfl (zn 1 (ym zc zy yr))))))) yf)))),?_⟩;walk_at "ds";refine qb (by first|decide|omega) (by first|decide|omega) λn ln hn=>?_;walk_at "ds";rw[jq];refine⟨by omega,by omega,zjo (λy=>∃b:Int,y=.int b/\0<=b/\b<=3) (λd k hk=>?_) λys hl hy=>?_⟩
 ·walk_at "ds";refine qb (by first|decide|omega) (by first|decide|omega) λb lb hb=>?_;walk_at "ds";exact hk _ ⟨b,rfl,lb,by omega⟩
 ·obtain⟨bs,rfl,hb⟩:=zgr hy;rw[List.length_map]at hl;walk_at "ds";exact q bs ⟨hb,by omega⟩ (by omega)
theorem zbh{c:Cl}{f g:Int->Bool}:∀(ms:List Int) (b:Int) (t:Td),(∀x,b<=x->x<b+ms.length->f x=g x)->ko c f ms b t=ko c g ms b t
 |[],_,_,_=>rfl
 |m::ms,b,t,h=>by
  rw[List.length_cons]at h;simp only[ko];rw[h b (by omega) (by omega)];exact zbh ms (b+1) _ λx h1 h2=>h x (by omega) (by omega)
theorem zpy{c:Cl}(N n:Nat){bs:List Int}(h:bs.length<=n)(t:Td):ko c (λb=>!zbc (stN N n) b) bs 0 t=ko c (λb=>!bt N b.toNat) bs 0 t:=zbh bs 0 t λx h1 h2=>by
 show(!zbc (stN N n) x) = !bt N x.toNat;rw[(zcm N n).2,decide_eq_true h1,decide_eq_true (by omega)];rfl
theorem zdq(N n:Nat):(stN N n).length<=n:=by have:=(zcm N n).1.l;omega
end
section
variable {P:Program}{w:World}{K:PySem.W.Frag}{mg:Str->Option Value}{base:Heap}{f:Addr}{fd:FuncData}
def whB:D->Bool
 |.int _=>true
 |_=>false
def inB(lo hi:Int):D->Bool
 |.int i=>decide (lo<=i/\i<=hi)
 |_=>false
def zcx:DSp:=λws Q=>∃d:D,ws = [.val d]/\Q (.val (.bool (whB d)))
theorem zio(B:Blt mg)(F:Fun K "is_whole" "is_whole" x6 f fd):FnOk P w K mg base CX0 1 f fd ["thing"] (yh K zcx):=by
 refine F.dok zh9 (λws Q h=>?_) (λcdv A outer s H ws Q E hr h=>?_)
 ·obtain⟨d,rfl,_⟩:=h;rfl
 obtain⟨d,rfl,q⟩:=h;refine⟨_,(zh (zw (zn5 (zgj (n := "int") zwb rfl B.isinstance boot_isinstance (zb 0) rfl B.intT boot_int) (zn4 (zn6 (zgj (n := "bool") zt2 rfl B.isinstance boot_isinstance (zb 0) rfl B.boolT boot_bool)))))),?_⟩;walk_at "ds"
 cases d <;> exact q
def zcy:DSp:=λws Q=>∃(d:D) (lo hi:Int),ws = [.val d,.val (.int lo),.val (.int hi)]/\Q (.val (.bool (inB lo hi d)))
theorem ziq(B:Blt mg)(F:Fun K "whole_in" "whole_in" x8 f fd)(C_is_whole:Cal P w K mg base 1 "is_whole" ["thing"] (yh K zcx)):FnOk P w K mg base CX0 2 f fd ["thing", "least", "most"] (yh K zcy):=by
 refine F.dok zia (λws Q h=>?_) (λcdv A outer s H ws Q E hr h=>?_)
 ·obtain⟨d,lo,hi,rfl,_⟩:=h;rfl
 obtain⟨d,lo,hi,rfl,q⟩:=h;refine⟨_,(zh (zw (zn5 (zq C_is_whole hr rfl (zn 0 zy)) (zn4 (zho zql zql (zb 1) (zb 0) (zb 2)))))),?_⟩;walk_at "ds";refine⟨d,rfl,?_⟩
 cases d with
 |int i=>
  simp only[whB];walk_at "ds"
  split
  ·next c=>simpa[inB,c]using q
  ·next c=>simpa[inB,c]using q
 |_=>simp only[whB];walk_at "ds";exact q
theorem zcn{α:Type}{f:D->(Option D->Prop)->Prop}(enc F:α->D):∀{as:List α}{acc:List D}{Q:List D->Prop},(∀a∈as,∀k:Option D->Prop,k (some (F a))->f (enc a) k)->acc.length+as.length<=sizeLine->Q (acc++as.map F)->zm2 f (as.map enc) acc Q
 |[],acc,Q,_,_,q=>by
  rw[List.map_nil,List.append_nil]at q;exact q
 |a::as,acc,Q,h,hl,q=>by
  rw[List.map_cons,zm2];refine h a List.mem_cons_self _ ?_;rw[List.length_cons]at hl;exact⟨by omega,zcn enc F (λb hb=>h b (List.mem_cons_of_mem _ hb)) (by rw[List.length_append,List.length_singleton];omega) (by rw[List.append_assoc];exact q)⟩
def atN(c:Cl)(bs:List Int)(N:Nat):Td:=ko c (λb=>!bt N b.toNat) bs 0 (zc9 c)
theorem zco(c:Cl)(f:Int->Bool)(m:Int):∀(ms:List Int) (b:Int) (t:Td),ko c f (ms ++ [m]) b t=tbL c (ko c f ms b t) (f (b+ms.length)) m.toNat
 |[],b,t=>by simp[ko]
 |x::ms,b,t=>by
  rw[List.cons_append,ko,zco c f m ms,ko,List.length_cons,show b+1+(ms.length:Int)=b+((ms.length+1:Nat):Int) by omega]
theorem zaw(N i:Nat):bt N i=N.testBit i:=by
 rw[Nat.testBit_eq_decide_div_mod_eq];rfl
theorem zu1{c:Cl}{pre:List Int}{m:Int}{N:Nat}(h:N<2 ^ pre.length):atN c (pre ++ [m]) N=tbL c (atN c pre N) true m.toNat:=by
 unfold atN;rw[zco];show tbL c _ (!bt N ((0+(pre.length:Int)).toNat)) _=_;rw[show(0+(pre.length:Int)).toNat=pre.length by omega,zaw,Nat.testBit_lt_two_pow h];rfl
theorem zrt{c:Cl}{pre:List Int}{m:Int}{N:Nat}(h:N<2 ^ pre.length):atN c (pre ++ [m]) (2 ^ pre.length+N)=tbL c (atN c pre N) false m.toNat:=by
 unfold atN;rw[zco];show tbL c _ (!bt _ ((0+(pre.length:Int)).toNat)) _=_;rw[show(0+(pre.length:Int)).toNat=pre.length by omega,zaw,Nat.testBit_two_pow_add_eq,Nat.testBit_lt_two_pow h];rw[zbh (g:=λb=>!bt N b.toNat) pre 0 (zc9 c) λx h1 h2=>by
  show(!bt _ x.toNat) = !bt N x.toNat;rw[zaw,zaw,Nat.testBit_two_pow_add_gt (by omega)]]
 rfl
theorem znf(c:Cl)(pre:List Int)(m:Int):((List.range (2 ^ pre.length)).map λN=>tbL c (atN c pre N) true m.toNat)++((List.range (2 ^ pre.length)).map λN=>tbL c (atN c pre N) false m.toNat)=(List.range (2 ^ (pre ++ [m]).length)).map (atN c (pre ++ [m])):=by
 rw[List.length_append,List.length_singleton,Nat.pow_succ,Nat.mul_two,List.range_add,List.map_append,List.map_map];congr 1
 ·exact List.map_congr_left λN hN=>(zu1 (List.mem_range.mp hN)).symm
 ·exact List.map_congr_left λN hN=>(zrt (List.mem_range.mp hN)).symm
theorem zwp{c:Cl}(o:c.Ok)(N:Nat){bs:List Int}(h:∀b∈bs,0<=b/\b<=3)(hl:bs.length<=8):Gd c bs.length (atN c bs N):=by
 have:=Gd.run o (λb=>!bt N b.toNat) bs 0 0 (zc9 c) (Gd.fir o) h (by omega);rw[Int.zero_add]at this;exact this
def zcz:DSp:=λws Q=>∃(c:Cl) (bs:List Int),ws = [.val c.D,.val (.tuple (bs.map PyData.int))]/\c.Ok/\Bg bs/\Q (.val (.list (((List.range (2 ^ bs.length)).map (atN c bs)).map Td.D)))
theorem zir(B:Blt mg)(F:Fun K "all_told" "all_told" wd f fd)(C_first_of:Cal P w K mg base 1 "first_of" ["caller"] (yh K zaf))(C_told_behind:Cal P w K mg base 6 "told_behind" ["caller", "told", "sound", "many"] (yh K vv)):FnOk P w K mg base CX0 7 f fd ["caller", "beginnings"] (yh K zcz):=by
 refine F.dok sc_all_told (λws Q h=>?_) (λcdv A outer s H ws Q E hr h=>?_)
 ·obtain⟨c,bs,rfl,_⟩:=h;rfl
 obtain⟨c,bs,rfl,o,bg,q⟩:=h;have ln:=bg.ln;refine⟨_,(zg (yu (i:=2) sc_all_told.nd rfl (Or.inr rfl) (DF.de (vi (za (zv (za (zq C_first_of hr rfl (zn 0 zy)) (za zc (za zc (za zc zm yr) yr) yr))) zm zbm)))) (zg (qw PassesOwn.never rfl (zb8 (zi 1)) (zf (i:=3) sc_all_told.nd rfl (Or.inr rfl)) (zh (yu (i:=2) sc_all_told.nd rfl (Or.inr rfl) (DF.de (zus rfl (N':=["sound", "told", "caller", "many", "row"]) (capt:=["caller", "many", "row"]) (k:=2) (js:=[0,3,2]) ⟨rfl,by decide,rfl,by decide,(.cons rfl (.cons rfl (.cons rfl .nil))),rfl,(.cons rfl (Or.inl rfl) rfl (Or.inl rfl) (.cons rfl (Or.inl rfl) rfl (Or.inl rfl) (.cons rfl (Or.inl rfl) rfl (Or.inl rfl) .nil))),rfl,by decide⟩ (wr (DE.dv (zv (za kr (za kr zm yr) yr)))) (λ_ _ _ _=>(zf (i:=0) (show List.Nodup (["sound", "told", "caller", "many", "row"]:List Str) by decide +kernel) rfl (Or.inl rfl) (Or.inr rfl))) (λ_ _ _ _=>qi) (λ_ _ _ _=>(zb8 (zi 4))) (λ_ _ _ _=>(zf (i:=1) (show List.Nodup (["sound", "told", "caller", "many", "row"]:List Str) by decide +kernel) rfl (Or.inl rfl) (Or.inr rfl))) (λ_ _ _ _=>qi) (λ_ _ _ _=>(zq C_told_behind hr rfl (zn 2 (zn 1 (zn 0 (zn 3 zy))))))))))) (zh (zw (zi 2))))),?_⟩;walk_at "ds";refine⟨c,rfl,?_⟩;walk_at "ds";refine wj (λds σ=>∃(pre ms:List Int) (u3:Option W),ds=ms.map PyData.int/\pre++ms=bs/\σ = [some (.val c.D),some (.val (.tuple (bs.map PyData.int))),some (.val (.list (((List.range (2 ^ pre.length)).map (atN c pre)).map Td.D))),u3]) ?_ ?_ ⟨[],bs,_,rfl,rfl,rfl⟩
 ·rintro d ds σ N ⟨pre,ms,u3,e,eb,rfl⟩ k
  cases ms with
  |nil=>cases e
  |cons m ms=>
   cases e;have hm:0<=m/\m<=3:=bg.lo m (by rw[<-eb];simp);have hp:∀b∈pre,0<=b/\b<=3:=λb hb=>bg.lo b (by rw[<-eb];simp[hb]);have hl:pre.length+(ms.length+1)=bs.length:=by rw[<-eb];simp
   have p8:2 ^ pre.length<=256:=Nat.pow_le_pow_right (n:=2) (by decide) (by omega:pre.length<=8);have one:∀(snd:Bool) (N:Nat) (K:Ret->Prop),K (.val (tbL c (atN c pre N) snd m.toNat).D)->vv [.val c.D,.val (atN c pre N).D,.val (.bool snd),.val (.int m)] K:=λsnd N K hk=>by
    have g:=zwp o N hp (by omega);have st':=g.step o (by omega) snd (m:=m.toNat) (by omega);have h1:=g.k;have h2:=g.w;exact⟨c,atN c pre N,snd,m.toNat,by rw[show((m.toNat:Nat):Int)=m by omega],o,g.pa.ok,by omega,by omega,⟨g.pa.k0,by omega⟩,by have:=st'.2;omega,hk⟩
   have rs:=znf c pre m;walk_at "ds";rw[zgz];walk_at "ds";rw[List.map_map];refine zcn (Td.D ∘ atN c pre) (λN=>(tbL c (atN c pre N) true m.toNat).D) (λN hN K hk=>?_) (by rw[sizeLine_eq];simp;omega) ?_
   ·walk_at "ds";exact one true N _ hk
   rw[zgz];walk_at "ds";refine zcn (Td.D ∘ atN c pre) (λN=>(tbL c (atN c pre N) false m.toNat).D) (λN hN K hk=>?_) (by rw[sizeLine_eq];simp;omega) ?_
   ·walk_at "ds";exact one false N _ hk
   rw[zgz];refine k _ ⟨pre ++ [m],ms,some (.val (.int m)),rfl,by rw[List.append_assoc];exact eb,?_⟩;rw[<-rs,List.map_append,List.map_map,List.map_map];rfl
 ·rintro σ ⟨pre,ms,u3,e,eb,rfl⟩
  cases ms with
  |cons m ms=>cases e
  |nil=>
   rw[List.append_nil]at eb;subst eb;exact q
end
section
variable {P:Program}{w:World}{K:PySem.W.Frag}{mg:Str->Option Value}{base:Heap}{f:Addr}{fd:FuncData}
def j3:DSp:=λws Q=>∃bs:List Int,ws = [.val (.list (bs.map PyData.int))]/\bs.length<=10000/\Q (.val (.tuple ((bs.foldl zcl []).map pD)))
theorem zpz(s:List (Int×Int))(b:Int):(zcl s b).length<=s.length+1:=by
 rcases ki s with rfl |⟨t,r,rfl⟩
 ·simp[zah]
 ·rw[zai]
  split <;> simp
theorem zdb(B:Blt mg)(F:Fun K "stretches_of" "stretches_of" xb f fd):FnOk P w K mg base CX0 1 f fd ["beats"] (yh K j3):=by
 refine F.dok sc_stretches_of (λws Q h=>?_) (λcdv A outer s H ws Q E hr h=>?_)
 ·obtain⟨bs,rfl,_⟩:=h;rfl
 obtain⟨bs,rfl,hl,q⟩:=h;refine⟨_,(zg (zdj (i:=1) sc_stretches_of.nd rfl (Or.inl rfl) (vi zm)) (zg (qw PassesOwn.never rfl (zb8 (zi 0)) (zf (i:=2) sc_stretches_of.nd rfl (Or.inl rfl)) (zh (xa (DWt.dt (zgh (w6 (zb 1)) (zdg (ye (ja hr) (DE.dv (z0 (DE.dv (z0 (zb 1) (jn zc) (λ_ _=>rfl))) zc (λ_ _=>rfl))) (zb 2) (yd _))))) (zh (zk0 1 (zv (za (z0 (DE.dv (z0 (zb 1) (jn zc) (λ_ _=>rfl))) zc (λ_ _=>rfl)) (za (zx yn (zb 2) (DE.dv zc)) zm))) (jn zc))) (zh (jg 1 (zv (za (zi 2) (za (zx yn (zb 2) (DE.dv zc)) zm)))))))) (zh (zw (wo ku rfl B.tupleT boot_tuple (zp (zb 1) yf)))))),?_⟩;walk_at "ds";refine wj (λds σ=>∃(ys:List Int) (acc:List (Int×Int)) (u:Option W),ds=ys.map PyData.int/\σ = [some (.val (.list (bs.map PyData.int))),some (.own (.lst (acc.map pD))),u]/\acc.length+ys.length<=10000/\ys.foldl zcl acc=bs.foldl zcl []) ?_ ?_ ⟨bs,[],_,rfl,rfl,by simp only[List.length_nil];omega,rfl⟩
 ·intro d ds σ N zz k;refine gg λG zk=>?_;obtain⟨ys,acc,u,e,zs,hl,ef⟩:=zz;refine zk ?_;clear zk;subst zs
  cases ys with
  |nil=>cases e
  |cons y ys=>
   cases e;rw[List.length_cons]at hl;rw[List.foldl_cons]at ef;have al:=zpz acc y;have fin:∀s',zcl acc y=s'->N [some (.val (.list (bs.map PyData.int))),some (.own (.lst (s'.map pD))),some (.val (.int y))]:=λs' es=>by
    subst es;exact k _ ⟨ys,_,_,rfl,rfl,by omega,ef⟩
   walk_at "ds";rcases ki acc with rfl |⟨t,r,rfl⟩
   ·rw[List.map_nil];walk_at "ds";exact⟨by decide,fin _ (zah _)⟩
   ·rw[List.length_append,List.length_singleton]at hl;have ea:=zai t r y;rw[List.map_append,List.map_cons,List.map_nil];rw[if_pos (by simp)];refine⟨_,atI_end _ _,?_⟩;simp only[pD];walk_at "ds";refine⟨_,y4 _ _ _,?_⟩;walk_at "ds"
    by_cases c2:r.2=y
    ·rw[if_pos c2];rw[if_pos c2]at ea;refine⟨_,atI_end _ _,?_⟩;walk_at "ds";refine⟨_,yp _ _,_,zin _ _,?_⟩;rw[zlx];have:=fin _ ea;rw[List.map_append]at this;exact this
    ·rw[if_neg c2];rw[if_neg c2]at ea;have:=fin _ ea;rw[List.map_append,List.map_append]at this;exact⟨by simp;omega,this⟩
 ·intro σ zz;refine gg λG zk=>?_;obtain⟨ys,acc,u,e,zs,hl,ef⟩:=zz;refine zk ?_;clear zk;subst zs
  cases ys with
  |cons y ys=>cases e
  |nil=>
   rw[<-ef]at q;exact q
def zex(N n:Nat):List Int:=((List.range n).filter (bt N)).map λi:Nat=>(i:Int)
theorem zis(N:Nat):∀n,(zex N n).foldl zcl []=stN N n
 |0=>rfl
 |n+1=>by
  unfold zex;rw[List.range_succ,List.filter_append,List.map_append,List.foldl_append];have ih:=zis N n;unfold zex at ih;rw[ih,stN]
  cases z:bt N n with
  |true=>simp[z]
  |false=>simp[z]
theorem zey{N n:Nat}(h:N<2 ^ n):∀j,stN N (n+j)=stN N n
 |0=>rfl
 |j+1=>by
  have z:bt N (n+j)=false:=by
   rw[zaw];exact Nat.testBit_lt_two_pow (Nat.lt_of_lt_of_le h (Nat.pow_le_pow_right (by decide) (by omega)))
  show stN N ((n+j)+1)=_;rw[stN,z,if_neg (by decide)];exact zey h j
def zc0:DSp:=λws Q=>∃(N n:Nat),ws = [.val (.int N),.val (.int n)]/\N<2 ^ n/\n<=25/\Q (.val (.tuple ((stN N 25).map pD)))
theorem zit(B:Blt mg)(F:Fun K "story_at" "story_at" x9 f fd)(C_whole_in:Cal P w K mg base 2 "whole_in" ["thing", "least", "most"] (yh K zcy))(C_stretches_of:Cal P w K mg base 1 "stretches_of" ["beats"] (yh K j3)):FnOk P w K mg base CX0 3 f fd ["number", "n"] (yh K zc0):=by
 refine F.dok zib (λws Q h=>?_) (λcdv A outer s H ws Q E hr h=>?_)
 ·obtain⟨N,n,rfl,_⟩:=h;rfl
 obtain⟨NN,n,rfl,hN,hn,q⟩:=h;refine⟨_,(zg (xa (zdy (w6 (DE.dv (zq C_whole_in hr rfl (zn 0 (ym zc (ym (zx zdz (DE.dv (zx zr8 (DE.dv zc) (zb 1))) (DE.dv zc)) zy) yr)))))) (zh zd1) yo) (zh (zw (zq C_stretches_of hr rfl (ym (DF.de (jv rfl (N':=["beat", "number"]) (capt:=["number"]) (k:=1) (js:=[0]) ⟨rfl,by decide,rfl,by decide,(.cons rfl .nil),rfl,(.cons rfl (Or.inl rfl) rfl (Or.inl rfl) .nil),rfl,by decide⟩ (DI.w (v4 rfl B.range (za (zi 1) zm))) (λ_ _ _ _=>(zf (i:=0) (show List.Nodup (["beat", "number"]:List Str) by decide +kernel) rfl (Or.inl rfl) (Or.inr rfl))) (λ_ _ _ _=>(vk (ye (ja hr) (DE.dv (zx zks (DE.dv (zx zkt (zb 1) (zb 0))) (DE.dv zc))) (DE.dv zc) (yd _)))) (λ_ _ _ _=>(zi 0)))) zy))))),?_⟩;walk_at "ds";refine⟨⟨by omega,by omega,by decide⟩,?_⟩;rw[show(1 * 2 ^ ((n:Nat):Int).toNat:Int)=((2 ^ n:Nat):Int) by rw[Int.one_mul,Int.toNat_natCast];simp];refine⟨_,_,_,rfl,?_⟩;have e1:inB 0 (((2 ^ n:Nat):Int)-1) (.int NN)=true:=by
  simp only[inB,decide_eq_true_eq];omega
 rw[e1];walk_at "ds";rw[jq];refine⟨by omega,by omega,?_⟩;unfold y3;refine vo (λi:Nat=>PyData.int (0+(i:Nat))) (λi=>if bt NN i=true then some (PyData.int (i:Nat)) else none) (λi hi k hk=>?_) ?_
 ·walk_at "ds";rw[Int.zero_add]
  have e2:((NN:Int) / 2 ^ ((i:Nat):Int).toNat) % 2=((NN / 2 ^ i % 2:Nat):Int):=by
   rw[Int.toNat_natCast];simp
  have e3:(((NN / 2 ^ i % 2:Nat):Int)=1)↔bt NN i=true:=by
   unfold bt;rw[decide_eq_true_eq];omega
  rw[e2];refine⟨by omega,by decide,?_⟩
  by_cases z:bt NN i=true
  ·rw[if_pos (e3.mpr z)];rw[if_pos z]at hk;exact hk
  ·rw[if_neg (λh=>z (e3.mp h))];rw[if_neg z]at hk;exact hk
 ·have e4:(List.range ((n:Nat):Int).toNat).filterMap (λi=>if bt NN i=true then some (PyData.int (i:Nat)) else none)=(zex NN n).map PyData.int:=by
   rw[Int.toNat_natCast];unfold zex;rw[List.map_map];generalize List.range n=rs
   induction rs with
   |nil=>rfl
   |cons x xs ih=>
    rw[List.filterMap_cons,List.filter_cons]
    cases z:bt NN x with
    |true=>simp only[if_true,List.map_cons];rw[ih];rfl
    |false=>simp only[Bool.false_eq_true,if_false];rw[ih]
  rw[e4];refine⟨zex NN n,rfl,?_,?_⟩
  ·unfold zex;rw[List.length_map];have:=List.length_filter_le (bt NN) (List.range n);rw[List.length_range]at this;omega
  ·rw[zis];have:=zey hN (25-n);rw[show n+(25-n)=25 by omega]at this;rw[this]at q;exact q
end
section
variable {P:Program}{w:World}{K:PySem.W.Frag}{mg:Str->Option Value}{base:Heap}{f:Addr}{fd:FuncData}
def zff(a b:Int)(r:Int×Int):Int:=max 0 (min r.2 b-max r.1 a)
def kl:DSp:=λws Q=>∃(s:List (Int×Int)) (a b:Int),ws = [.val (.tuple (s.map pD)),.val (.int a),.val (.int b)]/\s.length<=1000/\Q (.val (.int (s.map (zff a b)).sum))
theorem zez(B:Blt mg)(F:Fun K "silent_many" "silent_many" xj f fd):FnOk P w K mg base CX0 1 f fd ["story", "first", "last"] (yh K kl):=by
 refine F.dok zeg (λws Q h=>?_) (λcdv A outer s H ws Q E hr h=>?_)
 ·obtain⟨s,a,b,rfl,_⟩:=h;rfl
 obtain⟨s,a,b,rfl,hl,q⟩:=h;refine⟨_,(zh (zw (yt (zsa rfl) rfl B.sum boot_sum (zp (DE.dv (DF.de (jv rfl (N':=["start", "end", "last", "first"]) (capt:=["last", "first"]) (k:=2) (js:=[2,1]) ⟨rfl,by decide,rfl,by decide,(.cons rfl (.cons rfl .nil)),rfl,(.cons rfl (Or.inl rfl) rfl (Or.inl rfl) (.cons rfl (Or.inl rfl) rfl (Or.inl rfl) .nil)),rfl,by decide⟩ (wr (zb 0)) (λ_ _ _ _=>(yv (n:=2) rfl (ze (zf (i:=0) (show List.Nodup (["start", "end", "last", "first"]:List Str) by decide +kernel) rfl (Or.inl rfl) (Or.inr rfl)) (ze (zf (i:=1) (show List.Nodup (["start", "end", "last", "first"]:List Str) by decide +kernel) rfl (Or.inl rfl) (Or.inr rfl)) yj)))) (λ_ _ _ _=>qi) (λ_ _ _ _=>(yt (zn8 rfl) rfl B.max boot_max (zp (DE.dv zc) (zp (DE.dv (zx zdz (DE.dv (yt (zaz rfl) rfl B.min boot_min (zp (zb 1) (zp (zb 2) yf)))) (DE.dv (yt (zn8 rfl) rfl B.max boot_max (zp (zb 0) (zp (zb 3) yf)))))) yf) yr)))))) yf)))),?_⟩;walk_at "ds";rw[List.length_map];refine⟨by omega,j9 pD (λr=>.int (zff a b r)) (λr hr k hk=>?_) ?_⟩
 ·simp only[pD];walk_at "ds";exact hk
 ·refine⟨_,?_,q⟩;have:=zfo (s.map (zff a b));rw[List.map_map]at this;exact this
def pc(N n:Nat):Nat:=((List.range n).filter (bt N)).length
theorem zly(N:Nat)(m:Int):∀n:Nat,(n:Int)<=m->((stN N n).map (zff 0 m)).sum=(pc N n:Nat)
 |0,_=>rfl
 |n+1,h=>by
  have ih:=zly N m n (by omega);have ok:=(zcm N n).1;unfold pc at ih ⊢;rw[List.range_succ,List.filter_append,List.length_append,stN]
  cases z:bt N n with
  |false=>rw[if_neg (by decide),ih];simp[z]
  |true=>
   rw[if_pos rfl];have e1:([n].filter (bt N)).length=1:=by simp[z]
   rw[e1];rcases ki (stN N n) with e |⟨t,r,e⟩
   ·rw[e]at ih ⊢;rw[zah];simp only[List.map_nil,List.sum_nil,List.map_cons,List.sum_cons,zff]at ih ⊢;omega
   ·have hr:=ok.r r (by rw[e];simp);rw[e]at ih ⊢;rw[zai]
    split
    ·simp only[List.map_append,List.sum_append,List.map_cons,List.map_nil,List.sum_cons,List.sum_nil,zff]at ih ⊢;omega
    ·simp only[List.map_append,List.sum_append,List.map_cons,List.map_nil,List.sum_cons,List.sum_nil,zff]at ih ⊢;omega
theorem zlz{N n:Nat}(h:N<2 ^ n)(hn:n<=25):((stN N 25).map (zff 0 n)).sum=(pc N n:Nat):=by
 have:=zey h (25-n);rw[show n+(25-n)=25 by omega]at this;rw[this];exact zly N n n (Int.le_refl _)
def loN(c:Cl)(bs:List Int):List Nat:=(List.range (2 ^ bs.length)).filter λN=>decide (0<(atN c bs N).l)
def Best(L:List Nat)(n N:Nat):Prop:=N∈L/\∀M∈L,pc N n<pc M n\/(pc N n=pc M n/\N<=M)
theorem Best.uniq{L:List Nat}{n A B:Nat}(a:Best L n A)(b:Best L n B):A=B:=by
 have h1:=a.2 B b.1;have h2:=b.2 A a.1;omega
theorem ze0{c:Cl}{bs:List Int}{N:Nat}(h:N∈loN c bs):N<2 ^ bs.length:=List.mem_range.mp (List.mem_filter.mp h).1
theorem zu2(c:Cl)(bs:List Int):(loN c bs).Pairwise (· < ·):=List.Pairwise.sublist List.filter_sublist List.pairwise_lt_range
def kD(n:Int):D->Int
 |.tuple ds=>(ds.map λd=>match d with
  |.tuple [.int a,.int b]=>zff 0 n (a,b)
  |_=>0).sum
 |_=>0
theorem zsi(n:Int)(s:List (Int×Int)):kD n (.tuple (s.map pD))=(s.map (zff 0 n)).sum:=by
 show((s.map pD).map _).sum=_;rw[List.map_map];rfl
theorem ze1(F:Nat->D):∀(n k:Nat),vj k ((List.range' k n).map F)=(List.range' k n).map λi=>PyData.tuple [.int (i:Nat),F i]
 |0,_=>rfl
 |n+1,k=>by
  rw[List.range'_succ,List.map_cons,List.map_cons,vj,ze1 F n (k+1)]
theorem zax{α β:Type}(p:α->Bool)(g:α->β):∀as:List α,as.filterMap (λa=>if p a=true then some (g a) else none)=(as.filter p).map g
 |[]=>rfl
 |a::as=>by
  rw[List.filterMap_cons,List.filter_cons]
  cases p a with
  |true=>simp[zax p g as]
  |false=>simp[zax p g as]
def qh:DSp:=λws Q=>∃(c:Cl) (bs:List Int),ws = [.val c.D,.val (.tuple (bs.map PyData.int))]/\c.Ok/\Bg bs/\(loN c bs = []->Q (.val .none))/\∀N,Best (loN c bs) bs.length N->Q (.val (.tuple ((stN N 25).map pD)))
theorem zdc(B:Blt mg){T:Addr}(F:Fun K "losing_story" "losing_story" xf f fd){c:Addr}(hB:zaa mg base)(hC:PySem.W.CodeHd base c T)(hcd:fd.code=.ref c)(C_silent_many:Cal P w K mg base 1 "silent_many" ["story", "first", "last"] (yh K kl))(C_story_at:Cal P w K mg base 3 "story_at" ["number", "n"] (yh K zc0))(C_all_told:Cal P w K mg base 7 "all_told" ["caller", "beginnings"] (yh K zcz)):FnOk P w K mg base CX0 11 f fd ["caller", "beginnings"] (qz "losing_story.<locals>.<lambda>" T (yh K qh)):=by
 refine F.dokT sc_losing_story (λws Q h=>?_) (λA outer s H ws Q E hr hT h=>?_)
 ·obtain⟨c,bs,rfl,_⟩:=h;rfl
 obtain⟨c,bs,rfl,o,bg,q0,q1⟩:=h;have ln:=bg.ln;have p8:2 ^ bs.length<=256:=Nat.pow_le_pow_right (n:=2) (by decide) ln;refine⟨_,(zg (yu (i:=2) sc_losing_story.nd rfl (Or.inr rfl) (yt zbo rfl B.len PySem.boot_len (zp (zb 1) yf))) (zg (j8 (i:=3) sc_losing_story.nd rfl (Or.inl rfl) rfl (N':=["number", "told", "n"]) (capt:=["n"]) (k:=2) (js:=[2]) ⟨rfl,by decide,rfl,by decide,(.cons rfl .nil),rfl,(.cons rfl (Or.inl rfl) rfl (Or.inl rfl) .nil),rfl,by decide⟩ (DI.w (zd2 rfl B.enumerate (za (zq C_all_told hr rfl (zn 0 (zn 1 zy))) zm))) (λ_ _ _ _=>(yv (n:=2) rfl (ze (zf (i:=0) (show List.Nodup (["number", "told", "n"]:List Str) by decide +kernel) rfl (Or.inl rfl) (Or.inr rfl)) (ze (zf (i:=1) (show List.Nodup (["number", "told", "n"]:List Str) by decide +kernel) rfl (Or.inl rfl) (Or.inr rfl)) yj)))) (λ_ _ _ _=>(vk (ye zmk (DE.dv (z0 (zb 1) zc (λ_ _=>rfl))) (DE.dv zc) (yd _)))) (λ_ _ _ _=>(zq C_story_at hr rfl (zn 0 (zn 2 zy))))) (zh (zw (zpn (k:=1) (y := "story") (n := "n") (i:=2) rfl (hr.mono (by decide)) rfl B.min (zp (zb 3) yf) hT hC hcd hB rfl rfl rfl (by exact⟨rfl,rfl,rfl,by decide +kernel,rfl,rfl,by decide +kernel⟩) rfl rfl rfl (by first|exact Or.inl rfl|exact Or.inr (Or.inl rfl)|exact Or.inr (Or.inr rfl)) (λ_ _ _ _=>rfl) (λA outer s H E f cd cs hr=>(zq C_silent_many hr rfl (zn 0 (ym zc (zn 1 zy) yr))))))))),?_⟩;walk_at "ds";refine⟨c,bs,rfl,o,bg,?_⟩;walk_at "ds";rw[zca,List.length_map,List.length_map,List.length_range,List.length_map];refine⟨by omega,?_⟩;rw[List.map_map,List.range_eq_range',ze1,<-List.range_eq_range'];refine vo (λi:Nat=>PyData.tuple [.int (i:Nat),(Td.D ∘ atN c bs) i]) (λi=>if decide (0<(atN c bs i).l)=true then some (PyData.tuple ((stN i 25).map pD)) else none) (λi hi k hk=>?_) ?_
 ·have hi:=List.mem_range.mp hi;simp only[Function.comp,Td.D];walk_at "ds";refine⟨_,vc _ _ _ _ _,?_⟩;walk_at "ds"
  split
  ·next z=>
   rw[if_pos (decide_eq_true z)]at hk;exact⟨i,bs.length,rfl,hi,by omega,hk⟩
  ·next z=>
   rw[if_neg (by simpa using z)]at hk;exact hk
 rw[zax,show(List.range (2 ^ bs.length)).filter (λi=>decide (0<(atN c bs i).l))=loN c bs from rfl];have kk:∀N∈loN c bs,kD (bs.length:Int) (.tuple ((stN N 25).map pD))=(pc N bs.length:Nat):=λN hN=>by
  rw[zsi,zlz (ze0 hN) (by omega)]
 have up:=zu2 c bs;refine⟨kD (bs.length:Int),λx hx=>?_,λz=>q0 (List.map_eq_nil_iff.mp z),λi x hx hb=>?_⟩
 ·obtain⟨N,hN,rfl⟩:=List.mem_map.mp hx;exact⟨_,_,_,rfl,by have:=zdq N 25;omega,by rw[<-zsi]⟩
 ·rw[List.getElem?_map]at hx
  cases e:(loN c bs)[i]? with
  |none=>rw[e]at hx;cases hx
  |some N=>
   rw[e]at hx
   cases hx;have mN:=List.mem_of_getElem? e;refine q1 N ⟨mN,λM hM=>?_⟩;obtain⟨j,hj⟩:=List.getElem?_of_mem hM;have:=hb j (.tuple ((stN M 25).map pD)) (by rw[List.getElem?_map,hj];rfl);rw[kk N mN,kk M hM]at this
   by_cases h:j<i
   ·have:=this.2 h;exact .inl (by omega)
   ·have hle:N<=M:=by
     rcases Nat.lt_or_eq_of_le (Nat.le_of_not_lt h) with h|h
     ·obtain⟨h1,e1⟩:=List.getElem?_eq_some_iff.mp e;obtain⟨h2,e2⟩:=List.getElem?_eq_some_iff.mp hj;have:=List.pairwise_iff_getElem.mp up i j h1 h2 h;omega
     ·subst h;rw[e]at hj
      cases hj;exact Nat.le_refl _
    have:=this.1
    by_cases z:pc N bs.length=pc M bs.length
    ·exact .inr ⟨z,hle⟩
    ·exact .inl (by omega)
def j4:DSp:=λws Q=>∃(c:Cl) (bs:List Int),ws = [.val c.D,.val (.tuple (bs.map PyData.int))]/\c.Ok/\Bg bs/\(loN c bs = []->Q (.val .none))/\∀N,Best (loN c bs) bs.length N->Q (.val (.int (pc N bs.length:Nat)))
theorem zdd(B:Blt mg){T:Addr}(F:Fun K "least_silent" "least_silent" xg f fd)(C_silent_many:Cal P w K mg base 1 "silent_many" ["story", "first", "last"] (yh K kl))(C_losing_story:Cal P w K mg base 11 "losing_story" ["caller", "beginnings"] (qz "losing_story.<locals>.<lambda>" T (yh K qh))):FnOk P w K mg base CX0 12 f fd ["caller", "beginnings"] (qz "losing_story.<locals>.<lambda>" T (yh K j4)):=by
 refine F.dokT sc_least_silent (λws Q h=>?_) (λA outer s H ws Q E hr hT h=>?_)
 ·obtain⟨c,bs,rfl,_⟩:=h;rfl
 obtain⟨c,bs,rfl,o,bg,q0,q1⟩:=h;have ln:=bg.ln;refine⟨_,(zg (yu (i:=2) sc_least_silent.nd rfl (Or.inl rfl) (zeb C_losing_story hT hr rfl (zn 0 (zn 1 zy)))) (zg (xa (ye zv8 (zb 2) (DE.dv za5) (yd _)) (zh (zw za5)) yo) (zh (zw (zq C_silent_many hr rfl (zn 2 (ym zc (ym (yt zbo rfl B.len PySem.boot_len (zp (zb 1) yf)) zy) yr))))))),?_⟩;walk_at "ds";refine⟨c,bs,rfl,o,bg,λz=>?_,λN hN=>?_⟩
 ·walk_at "ds";exact q0 z
 ·walk_at "ds";have:=zdq N 25;rw[List.length_map];exact⟨_,_,_,rfl,by omega,by rw[zlz (ze0 hN.1) (by omega)];exact q1 N hN⟩
theorem zp0(N:Nat):∀n:Nat,((List.range n).map λi=>((N / 2 ^ i % 2:Nat):Int)).sum=(pc N n:Nat)
 |0=>rfl
 |n+1=>by
  have ih:=zp0 N n;unfold pc at ih ⊢;rw[List.range_succ,List.map_append,List.sum_append,List.filter_append,List.length_append,ih];have:(List.map (λi=>((N / 2 ^ i % 2:Nat):Int)) [n]).sum=(([n].filter (bt N)).length:Nat):=by
   cases z:bt N n with
   |true=>
    have:N / 2 ^ n % 2=1:=by unfold bt at z;exact of_decide_eq_true z
    rw[List.map_cons,List.map_nil,this];simp[z]
   |false=>
    have:¬ N / 2 ^ n % 2=1:=by unfold bt at z;exact of_decide_eq_false z
    have:N / 2 ^ n % 2=0:=by omega
    rw[List.map_cons,List.map_nil,this];simp[z]
  rw[this];omega
theorem zl0{N n:Nat}(h:N<2 ^ n):∀j,pc N (n+j)=pc N n
 |0=>rfl
 |j+1=>by
  have z:bt N (n+j)=false:=by
   rw[zaw];exact Nat.testBit_lt_two_pow (Nat.lt_of_lt_of_le h (Nat.pow_le_pow_right (by decide) (by omega)))
  have ih:=zl0 h j;unfold pc at ih ⊢;rw[<-Nat.add_assoc,List.range_succ,List.filter_append,List.length_append,ih];simp[z]
theorem zng{L:List Nat}{n:Nat}(hL:L ≠ []):∃N rest,jk (L.map λN=>[((pc N n:Nat):Int),((N:Nat):Int)]) = [((pc N n:Nat):Int),((N:Nat):Int)]::rest/\Best L n N:=by
 have pm:=v6 (L.map λN=>[((pc N n:Nat):Int),((N:Nat):Int)]);have le:=zd8 (L.map λN=>[((pc N n:Nat):Int),((N:Nat):Int)])
 cases e:jk (L.map λN=>[((pc N n:Nat):Int),((N:Nat):Int)]) with
 |nil=>
  rw[e]at pm;exact absurd (List.map_eq_nil_iff.mp (List.nil_perm.mp pm)) hL
 |cons t rest=>
  rw[e]at pm le;obtain⟨N,hN,rfl⟩:=List.mem_map.mp (pm.mem_iff.mp List.mem_cons_self);refine⟨N,rest,rfl,hN,λM hM=>?_⟩;have mm : [((pc M n:Nat):Int),((M:Nat):Int)] ∈ [((pc N n:Nat):Int),((N:Nat):Int)]::rest:=pm.mem_iff.mpr (List.mem_map.mpr ⟨M,hM,rfl⟩);rcases List.mem_cons.mp mm with z|z
  ·simp only[List.cons.injEq,and_true]at z;omega
  ·have:=(List.pairwise_cons.mp le).1 _ z;simp only[List.cons_lt_cons_iff,List.not_lt_nil,and_false,or_false,not_or,not_and]at this;omega
def zak:DSp:=λws Q=>∃N:Nat,ws = [.val (.int N)]/\Q (.val (.int (pc N 8:Nat)))
theorem ze2(B:Blt mg)(F:Fun K "_law_silent" "_law_silent" xp f fd):FnOk P w K mg base CX0 1 f fd ["_law_number"] (yh K zak):=by
 refine F.dok zei (λws Q h=>?_) (λcdv A outer s H ws Q E hr h=>?_)
 ·obtain⟨N,rfl,_⟩:=h;rfl
 obtain⟨N,rfl,q⟩:=h;refine⟨_,(zh (zw (yt (zsa rfl) rfl B.sum boot_sum (zp (DE.dv (DF.de (jv rfl (N':=["_law_beat", "_law_number"]) (capt:=["_law_number"]) (k:=1) (js:=[0]) ⟨rfl,by decide,rfl,by decide,(.cons rfl .nil),rfl,(.cons rfl (Or.inl rfl) rfl (Or.inl rfl) .nil),rfl,by decide⟩ (DI.w (v4 rfl B.range (za zc zm yr))) (λ_ _ _ _=>(zf (i:=0) (show List.Nodup (["_law_beat", "_law_number"]:List Str) by decide +kernel) rfl (Or.inl rfl) (Or.inr rfl))) (λ_ _ _ _=>qi) (λ_ _ _ _=>(zx zn7 (DE.dv (zx zkt (zb 1) (zb 0))) (DE.dv zc)))))) yf)))),?_⟩;walk_at "ds";refine⟨by decide,by decide,zmq (λi=>.int ((N / 2 ^ i % 2:Nat):Int)) (λi hi c hc=>?_) ⟨((List.range 8).map λi=>((N / 2 ^ i % 2:Nat):Int)),by rw[<-zfo];simp[Function.comp_def],?_⟩⟩
 ·walk_at "ds";rw[Int.zero_add,Int.toNat_natCast,zg8]
  first|exact hc|exact⟨by omega,hc⟩
 ·rw[zp0];exact q
end
section
variable {P:Program}{w:World}{K:PySem.W.Frag}{mg:Str->Option Value}{base:Heap}{f:Addr}{fd:FuncData}
theorem ju{xs:List D}{Q:D->Prop}(h:Lay (.list xs)/\(PyData.list xs).showable=true/\(PyData.list xs).shown.length<=sizeLine)(q:Q (.str (PyData.list xs).shown)):zjq (.list xs) Q:=⟨h.1,h.2.1,h.2.2,q⟩
theorem zu3(N:Nat):Sh (.tuple ((stN N 25).map pD)) 3000 2:=by
 obtain⟨h1,_⟩:=zcm N 25;exact(Sh.tup (n:=89) (k:=1) (m:=25) (λd hd=>by
  obtain⟨r,hr,rfl⟩:=List.mem_map.mp hd;have:=h1.r r hr;exact(Sh.tup (n:=41) (k:=0) (m:=2) (kh (zf5 (by omega) (by omega)) (kh (zf5 (by omega) (by omega)) zij)) (Nat.le_refl 2)).mono (by decide) (by decide)) (by rw[List.length_map];exact zdq N 25)).mono (by decide) (by decide)
theorem pc_le(N n:Nat):pc N n<=n:=by
 have:=List.length_filter_le (bt N) (List.range n);rw[List.length_range]at this;exact this
theorem zu4(B:Blt mg){T:Addr}(F:Fun K "law" "law" jw f fd)(C_told_of:Cal P w K mg base 7 "told_of" ["caller", "beginnings", "story"] (yh K zeu))(C_losing_story:Cal P w K mg base 11 "losing_story" ["caller", "beginnings"] (qz "losing_story.<locals>.<lambda>" T (yh K qh)))(C_least_silent:Cal P w K mg base 12 "least_silent" ["caller", "beginnings"] (qz "losing_story.<locals>.<lambda>" T (yh K j4)))(C__law_cell_at:Cal P w K mg base 1 "_law_cell_at" ["_law_script", "_law_k"] (yh K jx))(C__law_pen_of:Cal P w K mg base 1 "_law_pen_of" ["_law_cell"] (yh K zab))(C__law_caller:Cal P w K mg base 3 "_law_caller" ["_law_pen"] (yh K zaj))(C__law_beginnings:Cal P w K mg base 3 "_law_beginnings" ["_law_pen"] (yh K kj))(C__law_gone:Cal P w K mg base 4 "_law_gone" ["_law_caller_here", "_law_beginnings_here", "_law_number"] (yh K zb4))(C__law_by_bits:Cal P w K mg base 1 "_law_by_bits" ["_law_number"] (yh K jz))(C__law_silent:Cal P w K mg base 1 "_law_silent" ["_law_number"] (yh K zak)):FnOk P w K mg base CX0 13 f fd ["_law_script"] (qz "losing_story.<locals>.<lambda>" T (yh K zek)):=by
 refine F.dokT sc_law (λws Q h=>?_) (λA outer s H ws Q E hr hT h=>?_)
 ·obtain⟨ns,rfl,_⟩:=h;rfl
 obtain⟨ns,rfl,h63,q⟩:=h;refine⟨_,(zg (qw PassesOwn.never rfl (zb8 (zx yn (DE.dv (DF.de (vi (za (zq C__law_cell_at hr rfl (zn 0 (ym zc zy yr))) zm)))) (DE.dv (DF.de (zt3 0 (zdh zc) (zdh zc)))))) (zf (i:=1) sc_law.nd rfl (Or.inl rfl)) (zg (zqx (i:=2) sc_law.nd rfl (Or.inl rfl) (zqu C__law_pen_of hr rfl (zn 1 zy))) (zg (xq (zv (za (zq C__law_caller hr rfl (zn 2 zy)) (za (zq C__law_beginnings hr rfl (zn 2 zy)) zm))) (yv (n:=2) rfl (ze (zf (i:=3) sc_law.nd rfl (Or.inr rfl)) (ze (zf (i:=4) sc_law.nd rfl (Or.inr rfl)) yj)))) (zg (yu (i:=5) sc_law.nd rfl (Or.inl rfl) (DF.de (zpa rfl B.listT rfl B.range rfl (za (zx zr8 (DE.dv zc) (DE.dv (yt zbo rfl B.len PySem.boot_len (zp (zb 4) yf)))) zm)))) (zg (j8 (i:=6) sc_law.nd rfl (Or.inl rfl) rfl (N':=["_law_number", "_law_caller_here", "_law_beginnings_here"]) (capt:=["_law_caller_here", "_law_beginnings_here"]) (k:=1) (js:=[3,4]) ⟨rfl,by decide,rfl,by decide,(.cons rfl (.cons rfl .nil)),rfl,(.cons rfl (Or.inl rfl) rfl (Or.inl rfl) (.cons rfl (Or.inl rfl) rfl (Or.inl rfl) .nil)),rfl,by decide⟩ (wr (zb 5)) (λ_ _ _ _=>(zf (i:=0) (show List.Nodup (["_law_number", "_law_caller_here", "_law_beginnings_here"]:List Str) by decide +kernel) rfl (Or.inl rfl) (Or.inr rfl))) (λ_ _ _ _=>(vk (ye zmk (DE.dv (z0 (DE.dv (zq C__law_gone hr rfl (zn 1 (zn 2 (zn 0 zy))))) zc (λ_ _=>rfl))) (DE.dv zc) (yd _)))) (λ_ _ _ _=>(zi 0))) (zg (yu (i:=6) sc_law.nd rfl (Or.inl rfl) (DF.de (zbn zq9 rfl B.sorted boot_sorted (zp (DE.dv (DF.de (jv rfl (N':=["_law_number"]) (capt:=[]) (k:=1) (js:=[]) ⟨rfl,by decide,rfl,by decide,.nil,rfl,.nil,rfl,by decide⟩ (wr (zb 6)) (λ_ _ _ _=>(zf (i:=0) (show List.Nodup (["_law_number"]:List Str) by decide +kernel) rfl (Or.inl rfl) (Or.inr rfl))) (λ_ _ _ _=>qi) (λ_ _ _ _=>(zv (za (zq C__law_silent hr rfl (zn 0 zy)) (za (zi 0) zm))))))) yf)))) (zg (yu (i:=7) sc_law.nd rfl (Or.inl rfl) (DF.de (vi (za za5 (za za5 zm yr) yr)))) (zg (xa (ye (zgi hr) (zb 6) (DE.dv (DF.de (vi zm))) (yd _)) (zh (yu (i:=7) sc_law.nd rfl (Or.inl rfl) (DF.de (vi (za (z0 (DE.dv (z0 (zb 6) zc (λ_ _=>rfl))) zc (λ_ _=>rfl)) (za (zq C__law_by_bits hr rfl (ym (z0 (DE.dv (z0 (zb 6) zc (λ_ _=>rfl))) zc (λ_ _=>rfl)) zy)) zm)))))) yo) (zg (qw PassesOwn.never rfl (v4 rfl B.range (za zc zm yr)) (zf (i:=8) sc_law.nd rfl (Or.inl rfl)) (zh (xa (ye (zgi hr) (DE.dv (zhw hr rfl B.repr boot_repr (zbq (zug (zbq (DE.dn (zeb C_least_silent hT hr rfl (zn 3 (zn 4 zy)))) (zbq (DE.dn (zeb C_losing_story hT hr rfl (zn 3 (zn 4 zy)))) zgq))) zgq zv1))) (DE.dv (zhw hr rfl B.repr boot_repr (zbq (zuf 7) zgq))) (yd _)) (zh (zw kr)) yo))) (zh (xa (DWt.dt (zgh (ye (zgi hr) (zb 6) (DE.dv (DF.de (vi zm))) (yd _)) (zdg (ye zc2 (DE.dv (z0 (DE.dv (zq C_told_of hr rfl (zn 3 (zn 4 (ym (z0 (zb 7) zc (λ_ _=>rfl)) zy))))) zc (λ_ _=>rfl))) (DE.dv zc) (yd _))))) (zh (zw kr)) yo))))))))))) (zh (zw kr))),?_⟩
 walk_at "ds";refine⟨ns,0,rfl,by decide,λv=>?_⟩;obtain⟨ys,ey,_,hy⟩:=zjp PyData.int ns (some 1) (some 2);rw[ey,List.length_map];refine⟨by omega,?_⟩;walk_at "ds";refine wj (λds σ=>∃(vs:List Int) (u1 u2 u3 u4 u5 u6 u7 u8:Option W),ds=vs.map PyData.int/\σ = [some (.scr ns),u1,u2,u3,u4,u5,u6,u7,u8]) ?_ ?_ ⟨v::ys,none,none,none,none,none,none,none,none,rfl,rfl⟩
 ·intro d ds σ N zz k;refine gg λG zk=>?_;obtain⟨vs,u1,u2,u3,u4,u5,u6,u7,u8,e,zs⟩:=zz;refine zk ?_;clear zk;subst zs
  cases vs with
  |nil=>cases e
  |cons v vs=>
   cases e;refine dseq_by (λσ=>σ = [some (.scr ns),some (.val (.int v)),some .pen,u3,u4,u5,u6,u7,u8]) (λN' hN=>?_) ?_
   ·walk_at "ds";refine⟨_,rfl,λa b c=>?_⟩;walk_at "ds";exact⟨⟨a,b,c,rfl⟩,hN _ rfl⟩
   rintro σ rfl;refine dseq_by (λσ=>∃(c:Cl) (bs:List Int),c.Ok/\Bg bs/\σ = [some (.scr ns),some (.val (.int v)),some .pen,some (.val c.D),some (.val (.tuple (bs.map PyData.int))),u5,u6,u7,u8]) (λN' hN=>?_) ?_
   ·walk_at "ds";refine⟨rfl,λc co=>?_⟩;walk_at "ds";refine⟨rfl,λbs bo _=>?_⟩;walk_at "ds";exact hN _ ⟨c,bs,co,bo,rfl⟩
   rintro σ ⟨c,bs,co,bo,rfl⟩;have ln:=bo.ln;have p8:2 ^ bs.length<=256:=Nat.pow_le_pow_right (n:=2) (by decide) ln;have p0:0<2 ^ bs.length:=Nat.pow_pos (by decide);refine dseq_by (λσ=>σ = [some (.scr ns),some (.val (.int v)),some .pen,some (.val c.D),some (.val (.tuple (bs.map PyData.int))),some (.val (.list (y3 0 (2 ^ bs.length)))),u6,u7,u8]) (λN' hN=>?_) ?_
   ·walk_at "ds";rw[List.length_map];rw[show(1 * 2 ^ ((bs.length:Nat):Int).toNat:Int)=((2 ^ bs.length:Nat):Int) by rw[Int.one_mul,Int.toNat_natCast];simp,Int.toNat_natCast];exact⟨⟨by omega,by omega,by decide⟩,by omega,by omega,hN _ rfl⟩
   rintro σ rfl;refine dseq_by (λσ=>σ = [some (.scr ns),some (.val (.int v)),some .pen,some (.val c.D),some (.val (.tuple (bs.map PyData.int))),some (.val (.list (y3 0 (2 ^ bs.length)))),some (.val (.list ((loN c bs).map λN:Nat=>PyData.int N))),u7,u8]) (λN' hN=>?_) ?_
   ·walk_at "ds";rw[jq];refine⟨by omega,?_⟩;unfold y3;refine vo (λi:Nat=>PyData.int (0+(i:Nat))) (λi=>if decide (0<(atN c bs i).l)=true then some (PyData.int (i:Nat)) else none) (λi hi K hk=>?_) ?_
    ·walk_at "ds";rw[Int.zero_add];refine⟨c,bs,i,rfl,co,bo,?_⟩;simp only[Td.D];walk_at "ds";refine⟨_,vc _ _ _ _ _,?_⟩;walk_at "ds"
     split
     ·next z=>
      rw[if_pos (decide_eq_true (show 0<(atN c bs i).l from z))]at hk;exact hk
     ·next z=>
      rw[if_neg (by simpa using (show ¬ 0<(atN c bs i).l from z))]at hk;exact hk
    ·rw[zax];have:=hN _ rfl;unfold y3 at this;exact this
   rintro σ rfl;refine dseq_by (λσ=>σ = [some (.scr ns),some (.val (.int v)),some .pen,some (.val c.D),some (.val (.tuple (bs.map PyData.int))),some (.val (.list (y3 0 (2 ^ bs.length)))),some (.val (.list ((jk ((loN c bs).map λN=>[((pc N bs.length:Nat):Int),((N:Nat):Int)])).map tD))),u7,u8]) (λN' hN=>?_) ?_
   ·walk_at "ds";rw[List.length_map]
    have ll:(loN c bs).length<=256:=by
     have:=List.length_filter_le (λN=>decide (0<(atN c bs N).l)) (List.range (2 ^ bs.length));rw[List.length_range]at this;exact Nat.le_trans this p8
    refine⟨by omega,j9 (λN:Nat=>PyData.int N) (λN=>tD [((pc N bs.length:Nat):Int),((N:Nat):Int)]) (λN hN K hk=>?_) ?_⟩
    ·walk_at "ds";refine⟨N,rfl,?_⟩;have:=zl0 (ze0 hN) (8-bs.length);rw[show bs.length+(8-bs.length)=8 by omega]at this;rw[this];exact hk
    ·refine .inr ⟨(loN c bs).map λN=>[((pc N bs.length:Nat):Int),((N:Nat):Int)],?_,λt ht=>?_,hN _ rfl⟩
     ·rw[List.map_map];rfl
     ·obtain⟨N,_,rfl⟩:=List.mem_map.mp ht;simp
   rintro σ rfl;generalize some (W.val (PyData.list (y3 0 (2 ^ bs.length))))=s5;have lay0:Lay (.list []):=(Sh.lst (n:=1) (k:=0) (m:=1) zuj (Nat.zero_le 1)).lay (by decide);have shs:Sh (.list ((jk ((loN c bs).map λN=>[((pc N bs.length:Nat):Int),((N:Nat):Int)])).map tD)) 300000 3:=by
    have ll:(loN c bs).length<=256:=by
     have:=List.length_filter_le (λN=>decide (0<(atN c bs N).l)) (List.range (2 ^ bs.length));rw[List.length_range]at this;exact Nat.le_trans this p8
    refine(Sh.lst (n:=89) (k:=1) (m:=256) (λd hd=>?_) (by rw[List.length_map,(v6 _).length_eq,List.length_map];exact ll)).mono (by decide) (by decide);obtain⟨t,ht,rfl⟩:=List.mem_map.mp hd;obtain⟨M,hM,rfl⟩:=List.mem_map.mp ((v6 _).mem_iff.mp ht);have h1:=ze0 hM;have h2:=pc_le M bs.length;exact(Sh.tup (n:=41) (k:=0) (m:=2) (kh (zf5 (by omega) (by omega)) (kh (zf5 (by omega) (by omega)) zij)) (Nat.le_refl 2)).mono (by decide) (by decide)
   have lays:=shs.lay (by decide)
   by_cases hL:loN c bs = []
   ·have es:jk ((loN c bs).map λN=>[((pc N bs.length:Nat):Int),((N:Nat):Int)]) = []:=by rw[hL];simp[jk]
    rw[es]at lays ⊢;refine dseq_by (λσ=>σ = [some (.scr ns),some (.val (.int v)),some .pen,some (.val c.D),some (.val (.tuple (bs.map PyData.int))),s5,some (.val (.list [])),some (.val (.list [.none,.none])),u8]) (λN' hN=>?_) ?_
    ·walk_at "ds";exact hN _ rfl
    rintro σ rfl;refine dseq_by (λσ=>σ = [some (.scr ns),some (.val (.int v)),some .pen,some (.val c.D),some (.val (.tuple (bs.map PyData.int))),s5,some (.val (.list [])),some (.val (.list [.none,.none])),u8]) (λN' hN=>?_) ?_
    ·walk_at "ds";refine⟨lays,lay0,?_⟩;rw[if_neg (by simp[PyData.eqv,PyData.eqvAll])];exact hN _ rfl
    rintro σ rfl;have shA:Sh (.list [PyData.none,.none]) 100 1:=(Sh.lst (n:=41) (k:=0) (m:=2) (kh (Sh.none.mono (by decide) (by decide)) (kh (Sh.none.mono (by decide) (by decide)) zij)) (Nat.le_refl 2)).mono (by decide) (by decide);refine dseq_by (λσ=>∃u8:Option W,σ = [some (.scr ns),some (.val (.int v)),some .pen,some (.val c.D),some (.val (.tuple (bs.map PyData.int))),s5,some (.val (.list [])),some (.val (.list [.none,.none])),u8]) (λN' hN=>?_) ?_
    ·walk_at "ds";refine⟨by decide,?_⟩;refine zhv (λσ=>∃u8:Option W,σ = [some (.scr ns),some (.val (.int v)),some .pen,some (.val c.D),some (.val (.tuple (bs.map PyData.int))),s5,some (.val (.list [])),some (.val (.list [.none,.none])),u8]) ⟨_,rfl⟩ ?_ ?_
     ·rintro d _ σ N3 ⟨u8,rfl⟩ k5;have all:=shA.all (by decide) (by decide);walk_at "ds";refine⟨c,bs,rfl,co,bo,λ_=>?_,λN hN=>absurd hN.1 (by rw[hL];simp)⟩;refine⟨Sh.none.can,c,bs,rfl,co,bo,λ_=>?_,λN hN=>absurd hN.1 (by rw[hL];simp)⟩;refine⟨Sh.none.can,ju all ⟨shA.can,ju all ?_⟩⟩;simp only[onB,decide_true,Bool.not_true];rw[if_neg (by simp)];exact k5 _ ⟨_,rfl⟩
     ·rintro σ ⟨u8,rfl⟩;exact hN _ ⟨_,rfl⟩
    rintro σ ⟨u8,rfl⟩;walk_at "ds";refine⟨lay0,lay0,?_⟩;rw[if_neg (by simp[PyData.eqv,PyData.eqvAll])];exact k _ ⟨vs,_,_,_,_,_,_,_,_,rfl,rfl⟩
   ·obtain⟨NN,rest,es,hb⟩:=zng (n:=bs.length) hL;rw[es]at lays ⊢;have st:=zu3 NN;have l1:=zdq NN 25;have lt:=ze0 hb.1;have pl:=pc_le NN bs.length;have e1:=zpy (c:=c) NN 25 (by omega:bs.length<=25) (zc9 c);have hl:0<(atN c bs NN).l:=of_decide_eq_true (List.mem_filter.mp hb.1).2;unfold atN at hl;have shp:Sh (.int ((pc NN bs.length:Nat):Int)) 41 0:=zf5 (by omega) (by omega);have shA:Sh (.list [PyData.int ((pc NN bs.length:Nat):Int),.tuple ((stN NN 25).map pD)]) 7000 3:=(Sh.lst (n:=3000) (k:=2) (m:=2) (kh (shp.mono (by decide) (by decide)) (kh st zij)) (Nat.le_refl 2)).mono (by decide) (by decide);have all:=shA.all (by decide) (by decide);refine dseq_by (λσ=>σ = [some (.scr ns),some (.val (.int v)),some .pen,some (.val c.D),some (.val (.tuple (bs.map PyData.int))),s5,some (.val (.list (([((pc NN bs.length:Nat):Int),((NN:Nat):Int)]::rest).map tD))),some (.val (.list [.none,.none])),u8]) (λN' hN=>?_) ?_
    ·walk_at "ds";exact hN _ rfl
    rintro σ rfl;refine dseq_by (λσ=>σ = [some (.scr ns),some (.val (.int v)),some .pen,some (.val c.D),some (.val (.tuple (bs.map PyData.int))),s5,some (.val (.list (([((pc NN bs.length:Nat):Int),((NN:Nat):Int)]::rest).map tD))),some (.val (.list [.int ((pc NN bs.length:Nat):Int),.tuple ((stN NN 25).map pD)])),u8]) (λN' hN=>?_) ?_
    ·walk_at "ds";refine⟨lays,lay0,?_⟩;rw[if_pos (by simp[PyData.eqv,PyData.eqvAll])];refine⟨_,yp _ _,?_⟩;simp only[tD];walk_at "ds";refine⟨_,yp _ _,_,yp _ _,?_⟩;walk_at "ds";refine⟨_,y4 _ _ _,NN,rfl,?_⟩;exact hN _ rfl
    rintro σ rfl;refine dseq_by (λσ=>∃u8:Option W,σ = [some (.scr ns),some (.val (.int v)),some .pen,some (.val c.D),some (.val (.tuple (bs.map PyData.int))),s5,some (.val (.list (([((pc NN bs.length:Nat):Int),((NN:Nat):Int)]::rest).map tD))),some (.val (.list [.int ((pc NN bs.length:Nat):Int),.tuple ((stN NN 25).map pD)])),u8]) (λN' hN=>?_) ?_
    ·walk_at "ds";refine⟨by decide,?_⟩;refine zhv (λσ=>∃u8:Option W,σ = [some (.scr ns),some (.val (.int v)),some .pen,some (.val c.D),some (.val (.tuple (bs.map PyData.int))),s5,some (.val (.list (([((pc NN bs.length:Nat):Int),((NN:Nat):Int)]::rest).map tD))),some (.val (.list [.int ((pc NN bs.length:Nat):Int),.tuple ((stN NN 25).map pD)])),u8]) ⟨_,rfl⟩ ?_ ?_
     ·rintro d _ σ N3 ⟨u8,rfl⟩ k5;walk_at "ds";refine⟨c,bs,rfl,co,bo,λz=>absurd z hL,λN hN=>?_⟩
      cases hN.uniq hb;refine⟨shp.can,c,bs,rfl,co,bo,λz=>absurd z hL,λN hN=>?_⟩
      cases hN.uniq hb;refine⟨st.can,ju all ⟨shA.can,ju all ?_⟩⟩;simp only[onB,decide_true,Bool.not_true];rw[if_neg (by simp)];exact k5 _ ⟨_,rfl⟩
     ·rintro σ ⟨u8,rfl⟩;exact hN _ ⟨_,rfl⟩
    rintro σ ⟨u8,rfl⟩;walk_at "ds";refine⟨lays,lay0,?_⟩;rw[if_pos (by simp[PyData.eqv,PyData.eqvAll])];refine⟨_,y4 _ _ _,c,bs,_,rfl,co,bo,by omega,?_⟩;rw[e1];simp only[Td.D];walk_at "ds";refine⟨_,vc _ _ _ _ _,?_⟩;walk_at "ds";rw[if_neg (by omega)];exact k _ ⟨vs,_,_,_,_,_,_,_,_,rfl,rfl⟩
 ·intro σ zz;refine gg λG zk=>?_;obtain⟨vs,u1,u2,u3,u4,u5,u6,u7,u8,e,zs⟩:=zz;refine zk ?_;clear zk;subst zs;walk_at "ds";exact q
end
theorem zxo{us:List Value}(h:us.length=0):us = []:=List.eq_nil_of_length_eq_zero h
theorem zde{us:List Value}(h:us.length=1):∃a0,us = [a0]:=by
 cases us with
 |nil=>cases h
 |cons a t=>
  obtain rfl:=zxo (Nat.succ.inj h);exact⟨a,rfl⟩
theorem zcp{us:List Value}(h:us.length=2):∃a0 a1,us = [a0,a1]:=by
 cases us with
 |nil=>cases h
 |cons a t=>
  obtain⟨a1,rfl⟩:=zde (Nat.succ.inj h);exact⟨a,a1,rfl⟩
theorem ziu{us:List Value}(h:us.length=3):∃a0 a1 a2,us = [a0,a1,a2]:=by
 cases us with
 |nil=>cases h
 |cons a t=>
  obtain⟨a1,a2,rfl⟩:=zcp (Nat.succ.inj h);exact⟨a,a1,a2,rfl⟩
theorem zfg{us:List Value}(h:us.length=4):∃a0 a1 a2 a3,us = [a0,a1,a2,a3]:=by
 cases us with
 |nil=>cases h
 |cons a t=>
  obtain⟨a1,a2,a3,rfl⟩:=ziu (Nat.succ.inj h);exact⟨a,a1,a2,a3,rfl⟩
theorem zwq{us:List Value}(h:us.length=5):∃a0 a1 a2 a3 a4,us = [a0,a1,a2,a3,a4]:=by
 cases us with
 |nil=>cases h
 |cons a t=>
  obtain⟨a1,a2,a3,a4,rfl⟩:=zfg (Nat.succ.inj h);exact⟨a,a1,a2,a3,a4,rfl⟩
theorem zxp{us:List Value}(h:us.length=6):∃a0 a1 a2 a3 a4 a5,us = [a0,a1,a2,a3,a4,a5]:=by
 cases us with
 |nil=>cases h
 |cons a t=>
  obtain⟨a1,a2,a3,a4,a5,rfl⟩:=zwq (Nat.succ.inj h);exact⟨a,a1,a2,a3,a4,a5,rfl⟩
theorem zu5{l:PySem.W.OpenLaw}{w:World}{K:PySem.W.Frag}{h:Heap}{mg:Str->Option Value}{fa f0 f1 f2 f3 f4 f5 f6 f7 f8 f9 f10 f11 f12 f13 f14 f15 f16 f17 f18 f19 f20 f21 f22 f23 f24 f25 f26 f27 f28 f29 f30 f31 f32 f33 f34 f35 f36 f37 f38 f39 f40 f41:Addr}(X:K.In h)(G:h.Ns mainGlobals mg)(hfa:mg "law" = some (.ref fa))
  {od0 an0:Option Addr}{sl0:Array (Option Value)}{oc0 kV0 dc0 pm0 cd0 ct0:Value}
  (a0:PySem.W.nsIn K mainGlobals "is_whole" = some (some (.ref f0))) (l0:K.lookup f0=some ⟨oc0,od0,.func (PySem.W.fnOf "is_whole" "is_whole" (zl x6) (zj x6) (zd x6) .none kV0 dc0 pm0 an0 cd0 ct0),sl0⟩) (c0:PySem.W.codeIn K cd0 "is_whole" = true) (k0:PySem.W.keepIn K (.ref f0)=true)
  {od1 an1:Option Addr}{sl1:Array (Option Value)}{oc1 kV1 dc1 pm1 cd1 ct1:Value}
  (a1:PySem.W.nsIn K mainGlobals "whole_in" = some (some (.ref f1))) (l1:K.lookup f1=some ⟨oc1,od1,.func (PySem.W.fnOf "whole_in" "whole_in" (zl x8) (zj x8) (zd x8) .none kV1 dc1 pm1 an1 cd1 ct1),sl1⟩) (c1:PySem.W.codeIn K cd1 "whole_in" = true) (k1:PySem.W.keepIn K (.ref f1)=true)
  {od2 an2:Option Addr}{sl2:Array (Option Value)}{oc2 kV2 dc2 pm2 cd2 ct2:Value}
  (a2:PySem.W.nsIn K mainGlobals "growing" = some (some (.ref f2))) (l2:K.lookup f2=some ⟨oc2,od2,.func (PySem.W.fnOf "growing" "growing" (zl wt) (zj wt) (zd wt) .none kV2 dc2 pm2 an2 cd2 ct2),sl2⟩) (c2:PySem.W.codeIn K cd2 "growing" = true) (k2:PySem.W.keepIn K (.ref f2)=true)
  {od3 an3:Option Addr}{sl3:Array (Option Value)}{oc3 kV3 dc3 pm3 cd3 ct3:Value}
  (a3:PySem.W.nsIn K mainGlobals "gap_at" = some (some (.ref f3))) (l3:K.lookup f3=some ⟨oc3,od3,.func (PySem.W.fnOf "gap_at" "gap_at" (zl vr) (zj vr) (zd vr) .none kV3 dc3 pm3 an3 cd3 ct3),sl3⟩) (c3:PySem.W.codeIn K cd3 "gap_at" = true) (k3:PySem.W.keepIn K (.ref f3)=true)
  {od4 an4:Option Addr}{sl4:Array (Option Value)}{oc4 kV4 dc4 pm4 cd4 ct4:Value}
  (a4:PySem.W.nsIn K mainGlobals "stretches_of" = some (some (.ref f4))) (l4:K.lookup f4=some ⟨oc4,od4,.func (PySem.W.fnOf "stretches_of" "stretches_of" (zl xb) (zj xb) (zd xb) .none kV4 dc4 pm4 an4 cd4 ct4),sl4⟩) (c4:PySem.W.codeIn K cd4 "stretches_of" = true) (k4:PySem.W.keepIn K (.ref f4)=true)
  {od5 an5:Option Addr}{sl5:Array (Option Value)}{oc5 kV5 dc5 pm5 cd5 ct5:Value}
  (a5:PySem.W.nsIn K mainGlobals "silent_at" = some (some (.ref f5))) (l5:K.lookup f5=some ⟨oc5,od5,.func (PySem.W.fnOf "silent_at" "silent_at" (zl xx) (zj xx) (zd xx) .none kV5 dc5 pm5 an5 cd5 ct5),sl5⟩) (c5:PySem.W.codeIn K cd5 "silent_at" = true) (k5:PySem.W.keepIn K (.ref f5)=true)
  {od6 an6:Option Addr}{sl6:Array (Option Value)}{oc6 kV6 dc6 pm6 cd6 ct6:Value}
  (a6:PySem.W.nsIn K mainGlobals "silent_many" = some (some (.ref f6))) (l6:K.lookup f6=some ⟨oc6,od6,.func (PySem.W.fnOf "silent_many" "silent_many" (zl xj) (zj xj) (zd xj) .none kV6 dc6 pm6 an6 cd6 ct6),sl6⟩) (c6:PySem.W.codeIn K cd6 "silent_many" = true) (k6:PySem.W.keepIn K (.ref f6)=true)
  {od7 an7:Option Addr}{sl7:Array (Option Value)}{oc7 kV7 dc7 pm7 cd7 ct7:Value}
  (a7:PySem.W.nsIn K mainGlobals "story_at" = some (some (.ref f7))) (l7:K.lookup f7=some ⟨oc7,od7,.func (PySem.W.fnOf "story_at" "story_at" (zl x9) (zj x9) (zd x9) .none kV7 dc7 pm7 an7 cd7 ct7),sl7⟩) (c7:PySem.W.codeIn K cd7 "story_at" = true) (k7:PySem.W.keepIn K (.ref f7)=true)
  {od8 an8:Option Addr}{sl8:Array (Option Value)}{oc8 kV8 dc8 pm8 cd8 ct8:Value}
  (a8:PySem.W.nsIn K mainGlobals "lets" = some (some (.ref f8))) (l8:K.lookup f8=some ⟨oc8,od8,.func (PySem.W.fnOf "lets" "lets" (zl jr) (zj jr) (zd jr) .none kV8 dc8 pm8 an8 cd8 ct8),sl8⟩) (c8:PySem.W.codeIn K cd8 "lets" = true) (k8:PySem.W.keepIn K (.ref f8)=true)
  {od9 an9:Option Addr}{sl9:Array (Option Value)}{oc9 kV9 dc9 pm9 cd9 ct9:Value}
  (a9:PySem.W.nsIn K mainGlobals "heard" = some (some (.ref f9))) (l9:K.lookup f9=some ⟨oc9,od9,.func (PySem.W.fnOf "heard" "heard" (zl qm) (zj qm) (zd qm) .none kV9 dc9 pm9 an9 cd9 ct9),sl9⟩) (c9:PySem.W.codeIn K cd9 "heard" = true) (k9:PySem.W.keepIn K (.ref f9)=true)
  {od10 an10:Option Addr}{sl10:Array (Option Value)}{oc10 kV10 dc10 pm10 cd10 ct10:Value}
  (a10:PySem.W.nsIn K mainGlobals "heard_open" = some (some (.ref f10))) (l10:K.lookup f10=some ⟨oc10,od10,.func (PySem.W.fnOf "heard_open" "heard_open" (zl xr) (zj xr) (zd xr) .none kV10 dc10 pm10 an10 cd10 ct10),sl10⟩) (c10:PySem.W.codeIn K cd10 "heard_open" = true) (k10:PySem.W.keepIn K (.ref f10)=true)
  {od11 an11:Option Addr}{sl11:Array (Option Value)}{oc11 kV11 dc11 pm11 cd11 ct11:Value}
  (a11:PySem.W.nsIn K mainGlobals "heard_trying" = some (some (.ref f11))) (l11:K.lookup f11=some ⟨oc11,od11,.func (PySem.W.fnOf "heard_trying" "heard_trying" (zl xc) (zj xc) (zd xc) .none kV11 dc11 pm11 an11 cd11 ct11),sl11⟩) (c11:PySem.W.codeIn K cd11 "heard_trying" = true) (k11:PySem.W.keepIn K (.ref f11)=true)
  {od12 an12:Option Addr}{sl12:Array (Option Value)}{oc12 kV12 dc12 pm12 cd12 ct12:Value}
  (a12:PySem.W.nsIn K mainGlobals "coins_asked" = some (some (.ref f12))) (l12:K.lookup f12=some ⟨oc12,od12,.func (PySem.W.fnOf "coins_asked" "coins_asked" (zl xk) (zj xk) (zd xk) .none kV12 dc12 pm12 an12 cd12 ct12),sl12⟩) (c12:PySem.W.codeIn K cd12 "coins_asked" = true) (k12:PySem.W.keepIn K (.ref f12)=true)
  {od13 an13:Option Addr}{sl13:Array (Option Value)}{oc13 kV13 dc13 pm13 cd13 ct13:Value}
  (a13:PySem.W.nsIn K mainGlobals "can_pay" = some (some (.ref f13))) (l13:K.lookup f13=some ⟨oc13,od13,.func (PySem.W.fnOf "can_pay" "can_pay" (zl wu) (zj wu) (zd wu) .none kV13 dc13 pm13 an13 cd13 ct13),sl13⟩) (c13:PySem.W.codeIn K cd13 "can_pay" = true) (k13:PySem.W.keepIn K (.ref f13)=true)
  {od14 an14:Option Addr}{sl14:Array (Option Value)}{oc14 kV14 dc14 pm14 cd14 ct14:Value}
  (a14:PySem.W.nsIn K mainGlobals "coins_by" = some (some (.ref f14))) (l14:K.lookup f14=some ⟨oc14,od14,.func (PySem.W.fnOf "coins_by" "coins_by" (zl wa) (zj wa) (zd wa) .none kV14 dc14 pm14 an14 cd14 ct14),sl14⟩) (c14:PySem.W.codeIn K cd14 "coins_by" = true) (k14:PySem.W.keepIn K (.ref f14)=true)
  {od15 an15:Option Addr}{sl15:Array (Option Value)}{oc15 kV15 dc15 pm15 cd15 ct15:Value}
  (a15:PySem.W.nsIn K mainGlobals "first_of" = some (some (.ref f15))) (l15:K.lookup f15=some ⟨oc15,od15,.func (PySem.W.fnOf "first_of" "first_of" (zl wc) (zj wc) (zd wc) .none kV15 dc15 pm15 an15 cd15 ct15),sl15⟩) (c15:PySem.W.codeIn K cd15 "first_of" = true) (k15:PySem.W.keepIn K (.ref f15)=true)
  {od16 an16:Option Addr}{sl16:Array (Option Value)}{oc16 kV16 dc16 pm16 cd16 ct16:Value}
  (a16:PySem.W.nsIn K mainGlobals "knocked" = some (some (.ref f16))) (l16:K.lookup f16=some ⟨oc16,od16,.func (PySem.W.fnOf "knocked" "knocked" (zl wv) (zj wv) (zd wv) .none kV16 dc16 pm16 an16 cd16 ct16),sl16⟩) (c16:PySem.W.codeIn K cd16 "knocked" = true) (k16:PySem.W.keepIn K (.ref f16)=true)
  {od17 an17:Option Addr}{sl17:Array (Option Value)}{oc17 kV17 dc17 pm17 cd17 ct17:Value}
  (a17:PySem.W.nsIn K mainGlobals "what_of" = some (some (.ref f17))) (l17:K.lookup f17=some ⟨oc17,od17,.func (PySem.W.fnOf "what_of" "what_of" (zl ww) (zj ww) (zd ww) .none kV17 dc17 pm17 an17 cd17 ct17),sl17⟩) (c17:PySem.W.codeIn K cd17 "what_of" = true) (k17:PySem.W.keepIn K (.ref f17)=true)
  {od18 an18:Option Addr}{sl18:Array (Option Value)}{oc18 kV18 dc18 pm18 cd18 ct18:Value}
  (a18:PySem.W.nsIn K mainGlobals "tried" = some (some (.ref f18))) (l18:K.lookup f18=some ⟨oc18,od18,.func (PySem.W.fnOf "tried" "tried" (zl qo) (zj qo) (zd qo) .none kV18 dc18 pm18 an18 cd18 ct18),sl18⟩) (c18:PySem.W.codeIn K cd18 "tried" = true) (k18:PySem.W.keepIn K (.ref f18)=true)
  {od19 an19:Option Addr}{sl19:Array (Option Value)}{oc19 kV19 dc19 pm19 cd19 ct19:Value}
  (a19:PySem.W.nsIn K mainGlobals "asked" = some (some (.ref f19))) (l19:K.lookup f19=some ⟨oc19,od19,.func (PySem.W.fnOf "asked" "asked" (zl qp) (zj qp) (zd qp) .none kV19 dc19 pm19 an19 cd19 ct19),sl19⟩) (c19:PySem.W.codeIn K cd19 "asked" = true) (k19:PySem.W.keepIn K (.ref f19)=true)
  {od20 an20:Option Addr}{sl20:Array (Option Value)}{oc20 kV20 dc20 pm20 cd20 ct20:Value}
  (a20:PySem.W.nsIn K mainGlobals "stepped" = some (some (.ref f20))) (l20:K.lookup f20=some ⟨oc20,od20,.func (PySem.W.fnOf "stepped" "stepped" (zl wx) (zj wx) (zd wx) .none kV20 dc20 pm20 an20 cd20 ct20),sl20⟩) (c20:PySem.W.codeIn K cd20 "stepped" = true) (k20:PySem.W.keepIn K (.ref f20)=true)
  {od21 an21:Option Addr}{sl21:Array (Option Value)}{oc21 kV21 dc21 pm21 cd21 ct21:Value}
  (a21:PySem.W.nsIn K mainGlobals "told_behind" = some (some (.ref f21))) (l21:K.lookup f21=some ⟨oc21,od21,.func (PySem.W.fnOf "told_behind" "told_behind" (zl xl) (zj xl) (zd xl) .none kV21 dc21 pm21 an21 cd21 ct21),sl21⟩) (c21:PySem.W.codeIn K cd21 "told_behind" = true) (k21:PySem.W.keepIn K (.ref f21)=true)
  {od22 an22:Option Addr}{sl22:Array (Option Value)}{oc22 kV22 dc22 pm22 cd22 ct22:Value}
  (a22:PySem.W.nsIn K mainGlobals "told_of" = some (some (.ref f22))) (l22:K.lookup f22=some ⟨oc22,od22,.func (PySem.W.fnOf "told_of" "told_of" (zl wy) (zj wy) (zd wy) .none kV22 dc22 pm22 an22 cd22 ct22),sl22⟩) (c22:PySem.W.codeIn K cd22 "told_of" = true) (k22:PySem.W.keepIn K (.ref f22)=true)
  {od23 an23:Option Addr}{sl23:Array (Option Value)}{oc23 kV23 dc23 pm23 cd23 ct23:Value}
  (a23:PySem.W.nsIn K mainGlobals "all_told" = some (some (.ref f23))) (l23:K.lookup f23=some ⟨oc23,od23,.func (PySem.W.fnOf "all_told" "all_told" (zl wd) (zj wd) (zd wd) .none kV23 dc23 pm23 an23 cd23 ct23),sl23⟩) (c23:PySem.W.codeIn K cd23 "all_told" = true) (k23:PySem.W.keepIn K (.ref f23)=true)
  {od24 an24:Option Addr}{sl24:Array (Option Value)}{oc24 kV24 dc24 pm24 cd24 ct24:Value}
  (a24:PySem.W.nsIn K mainGlobals "losing_story" = some (some (.ref f24))) (l24:K.lookup f24=some ⟨oc24,od24,.func (PySem.W.fnOf "losing_story" "losing_story" (zl xf) (zj xf) (zd xf) .none kV24 dc24 pm24 an24 cd24 ct24),sl24⟩) (c24:PySem.W.codeIn K cd24 "losing_story" = true) (k24:PySem.W.keepIn K (.ref f24)=true)
  {od25 an25:Option Addr}{sl25:Array (Option Value)}{oc25 kV25 dc25 pm25 cd25 ct25:Value}
  (a25:PySem.W.nsIn K mainGlobals "least_silent" = some (some (.ref f25))) (l25:K.lookup f25=some ⟨oc25,od25,.func (PySem.W.fnOf "least_silent" "least_silent" (zl xg) (zj xg) (zd xg) .none kV25 dc25 pm25 an25 cd25 ct25),sl25⟩) (c25:PySem.W.codeIn K cd25 "least_silent" = true) (k25:PySem.W.keepIn K (.ref f25)=true)
  {od26 an26:Option Addr}{sl26:Array (Option Value)}{oc26 kV26 dc26 pm26 cd26 ct26:Value}
  (a26:PySem.W.nsIn K mainGlobals "_law_cell_at" = some (some (.ref f26))) (l26:K.lookup f26=some ⟨oc26,od26,.func (PySem.W.fnOf "_law_cell_at" "_law_cell_at" (zl xh) (zj xh) (zd xh) .none kV26 dc26 pm26 an26 cd26 ct26),sl26⟩) (c26:PySem.W.codeIn K cd26 "_law_cell_at" = true) (k26:PySem.W.keepIn K (.ref f26)=true)
  {od27 an27:Option Addr}{sl27:Array (Option Value)}{oc27 kV27 dc27 pm27 cd27 ct27:Value}
  (a27:PySem.W.nsIn K mainGlobals "_law_next" = some (some (.ref f27))) (l27:K.lookup f27=some ⟨oc27,od27,.func (PySem.W.fnOf "_law_next" "_law_next" (zl xy) (zj xy) (zd xy) .none kV27 dc27 pm27 an27 cd27 ct27),sl27⟩) (c27:PySem.W.codeIn K cd27 "_law_next" = true) (k27:PySem.W.keepIn K (.ref f27)=true)
  {od28 an28:Option Addr}{sl28:Array (Option Value)}{oc28 kV28 dc28 pm28 cd28 ct28:Value}
  (a28:PySem.W.nsIn K mainGlobals "_law_pen_of" = some (some (.ref f28))) (l28:K.lookup f28=some ⟨oc28,od28,.func (PySem.W.fnOf "_law_pen_of" "_law_pen_of" (zl xm) (zj xm) (zd xm) .none kV28 dc28 pm28 an28 cd28 ct28),sl28⟩) (c28:PySem.W.codeIn K cd28 "_law_pen_of" = true) (k28:PySem.W.keepIn K (.ref f28)=true)
  {od29 an29:Option Addr}{sl29:Array (Option Value)}{oc29 kV29 dc29 pm29 cd29 ct29:Value}
  (a29:PySem.W.nsIn K mainGlobals "_law_draw" = some (some (.ref f29))) (l29:K.lookup f29=some ⟨oc29,od29,.func (PySem.W.fnOf "_law_draw" "_law_draw" (zl xz) (zj xz) (zd xz) .none kV29 dc29 pm29 an29 cd29 ct29),sl29⟩) (c29:PySem.W.codeIn K cd29 "_law_draw" = true) (k29:PySem.W.keepIn K (.ref f29)=true)
  {od30 an30:Option Addr}{sl30:Array (Option Value)}{oc30 kV30 dc30 pm30 cd30 ct30:Value}
  (a30:PySem.W.nsIn K mainGlobals "_law_caller" = some (some (.ref f30))) (l30:K.lookup f30=some ⟨oc30,od30,.func (PySem.W.fnOf "_law_caller" "_law_caller" (zl xn) (zj xn) (zd xn) .none kV30 dc30 pm30 an30 cd30 ct30),sl30⟩) (c30:PySem.W.codeIn K cd30 "_law_caller" = true) (k30:PySem.W.keepIn K (.ref f30)=true)
  {od31 an31:Option Addr}{sl31:Array (Option Value)}{oc31 kV31 dc31 pm31 cd31 ct31:Value}
  (a31:PySem.W.nsIn K mainGlobals "_law_beginnings" = some (some (.ref f31))) (l31:K.lookup f31=some ⟨oc31,od31,.func (PySem.W.fnOf "_law_beginnings" "_law_beginnings" (zl yx) (zj yx) (zd yx) .none kV31 dc31 pm31 an31 cd31 ct31),sl31⟩) (c31:PySem.W.codeIn K cd31 "_law_beginnings" = true) (k31:PySem.W.keepIn K (.ref f31)=true)
  {od32 an32:Option Addr}{sl32:Array (Option Value)}{oc32 kV32 dc32 pm32 cd32 ct32:Value}
  (a32:PySem.W.nsIn K mainGlobals "_law_gap" = some (some (.ref f32))) (l32:K.lookup f32=some ⟨oc32,od32,.func (PySem.W.fnOf "_law_gap" "_law_gap" (zl we) (zj we) (zd we) .none kV32 dc32 pm32 an32 cd32 ct32),sl32⟩) (c32:PySem.W.codeIn K cd32 "_law_gap" = true) (k32:PySem.W.keepIn K (.ref f32)=true)
  {od33 an33:Option Addr}{sl33:Array (Option Value)}{oc33 kV33 dc33 pm33 cd33 ct33:Value}
  (a33:PySem.W.nsIn K mainGlobals "_law_hear" = some (some (.ref f33))) (l33:K.lookup f33=some ⟨oc33,od33,.func (PySem.W.fnOf "_law_hear" "_law_hear" (zl x0) (zj x0) (zd x0) .none kV33 dc33 pm33 an33 cd33 ct33),sl33⟩) (c33:PySem.W.codeIn K cd33 "_law_hear" = true) (k33:PySem.W.keepIn K (.ref f33)=true)
  {od34 an34:Option Addr}{sl34:Array (Option Value)}{oc34 kV34 dc34 pm34 cd34 ct34:Value}
  (a34:PySem.W.nsIn K mainGlobals "_law_try" = some (some (.ref f34))) (l34:K.lookup f34=some ⟨oc34,od34,.func (PySem.W.fnOf "_law_try" "_law_try" (zl wf) (zj wf) (zd wf) .none kV34 dc34 pm34 an34 cd34 ct34),sl34⟩) (c34:PySem.W.codeIn K cd34 "_law_try" = true) (k34:PySem.W.keepIn K (.ref f34)=true)
  {od35 an35:Option Addr}{sl35:Array (Option Value)}{oc35 kV35 dc35 pm35 cd35 ct35:Value}
  (a35:PySem.W.nsIn K mainGlobals "_law_step" = some (some (.ref f35))) (l35:K.lookup f35=some ⟨oc35,od35,.func (PySem.W.fnOf "_law_step" "_law_step" (zl x3) (zj x3) (zd x3) .none kV35 dc35 pm35 an35 cd35 ct35),sl35⟩) (c35:PySem.W.codeIn K cd35 "_law_step" = true) (k35:PySem.W.keepIn K (.ref f35)=true)
  {od36 an36:Option Addr}{sl36:Array (Option Value)}{oc36 kV36 dc36 pm36 cd36 ct36:Value}
  (a36:PySem.W.nsIn K mainGlobals "_law_first" = some (some (.ref f36))) (l36:K.lookup f36=some ⟨oc36,od36,.func (PySem.W.fnOf "_law_first" "_law_first" (zl xt) (zj xt) (zd xt) .none kV36 dc36 pm36 an36 cd36 ct36),sl36⟩) (c36:PySem.W.codeIn K cd36 "_law_first" = true) (k36:PySem.W.keepIn K (.ref f36)=true)
  {od37 an37:Option Addr}{sl37:Array (Option Value)}{oc37 kV37 dc37 pm37 cd37 ct37:Value}
  (a37:PySem.W.nsIn K mainGlobals "_law_counts" = some (some (.ref f37))) (l37:K.lookup f37=some ⟨oc37,od37,.func (PySem.W.fnOf "_law_counts" "_law_counts" (zl xo) (zj xo) (zd xo) .none kV37 dc37 pm37 an37 cd37 ct37),sl37⟩) (c37:PySem.W.codeIn K cd37 "_law_counts" = true) (k37:PySem.W.keepIn K (.ref f37)=true)
  {od38 an38:Option Addr}{sl38:Array (Option Value)}{oc38 kV38 dc38 pm38 cd38 ct38:Value}
  (a38:PySem.W.nsIn K mainGlobals "_law_gone" = some (some (.ref f38))) (l38:K.lookup f38=some ⟨oc38,od38,.func (PySem.W.fnOf "_law_gone" "_law_gone" (zl x4) (zj x4) (zd x4) .none kV38 dc38 pm38 an38 cd38 ct38),sl38⟩) (c38:PySem.W.codeIn K cd38 "_law_gone" = true) (k38:PySem.W.keepIn K (.ref f38)=true)
  {od39 an39:Option Addr}{sl39:Array (Option Value)}{oc39 kV39 dc39 pm39 cd39 ct39:Value}
  (a39:PySem.W.nsIn K mainGlobals "_law_by_bits" = some (some (.ref f39))) (l39:K.lookup f39=some ⟨oc39,od39,.func (PySem.W.fnOf "_law_by_bits" "_law_by_bits" (zl xi) (zj xi) (zd xi) .none kV39 dc39 pm39 an39 cd39 ct39),sl39⟩) (c39:PySem.W.codeIn K cd39 "_law_by_bits" = true) (k39:PySem.W.keepIn K (.ref f39)=true)
  {od40 an40:Option Addr}{sl40:Array (Option Value)}{oc40 kV40 dc40 pm40 cd40 ct40:Value}
  (a40:PySem.W.nsIn K mainGlobals "_law_silent" = some (some (.ref f40))) (l40:K.lookup f40=some ⟨oc40,od40,.func (PySem.W.fnOf "_law_silent" "_law_silent" (zl xp) (zj xp) (zd xp) .none kV40 dc40 pm40 an40 cd40 ct40),sl40⟩) (c40:PySem.W.codeIn K cd40 "_law_silent" = true) (k40:PySem.W.keepIn K (.ref f40)=true)
  {od41 an41:Option Addr}{sl41:Array (Option Value)}{oc41 kV41 dc41 pm41 cd41 ct41:Value}
  (a41:PySem.W.nsIn K mainGlobals "law" = some (some (.ref f41))) (l41:K.lookup f41=some ⟨oc41,od41,.func (PySem.W.fnOf "law" "law" (zl jw) (zj jw) (zd jw) .none kV41 dc41 pm41 an41 cd41 ct41),sl41⟩) (c41:PySem.W.codeIn K cd41 "law" = true) (k41:PySem.W.keepIn K (.ref f41)=true)
  (z_len:PySem.W.nsIn K mainGlobals "len" = some none)
  (z_range:PySem.W.nsIn K mainGlobals "range" = some none)
  (z_enumerate:PySem.W.nsIn K mainGlobals "enumerate" = some none)
  (z_sum:PySem.W.nsIn K mainGlobals "sum" = some none)
  (z_min:PySem.W.nsIn K mainGlobals "min" = some none)
  (z_max:PySem.W.nsIn K mainGlobals "max" = some none)
  (z_repr:PySem.W.nsIn K mainGlobals "repr" = some none)
  (z_isinstance:PySem.W.nsIn K mainGlobals "isinstance" = some none)
  (z_any:PySem.W.nsIn K mainGlobals "any" = some none)
  (z_zip:PySem.W.nsIn K mainGlobals "zip" = some none)
  (z_sorted:PySem.W.nsIn K mainGlobals "sorted" = some none)
  (z_tupleT:PySem.W.nsIn K mainGlobals "tuple" = some none)
  (z_intT:PySem.W.nsIn K mainGlobals "int" = some none)
  (z_listT:PySem.W.nsIn K mainGlobals "list" = some none)
  (z_strT:PySem.W.nsIn K mainGlobals "str" = some none)
  (z_boolT:PySem.W.nsIn K mainGlobals "bool" = some none)
  {t_SILENT:Tok} (y_SILENT:PySem.W.nsIn K mainGlobals "SILENT" = some (some (.str "silent" t_SILENT)))
  {t_OPEN:Tok} (y_OPEN:PySem.W.nsIn K mainGlobals "OPEN" = some (some (.str "open" t_OPEN)))
  {t_SHUT:Tok} (y_SHUT:PySem.W.nsIn K mainGlobals "SHUT" = some (some (.str "shut" t_SHUT)))
  {t_TRYING:Tok} (y_TRYING:PySem.W.nsIn K mainGlobals "TRYING" = some (some (.str "trying" t_TRYING)))
  {t_HELD:Tok} (y_HELD:PySem.W.nsIn K mainGlobals "HELD" = some (some (.str "held" t_HELD)))
  {gt_FIRST_STANDING_0:Tok}{gt_FIRST_STANDING_1:Tok}{ga_FIRST_STANDING:Addr}{gn_FIRST_STANDING:Nat}{gs_FIRST_STANDING:Array (Option Value)} (yl_FIRST_STANDING:K.lookup ga_FIRST_STANDING=some ⟨.type "tuple",none,.seq #[.str "open" gt_FIRST_STANDING_0,.int 0 gt_FIRST_STANDING_1] gn_FIRST_STANDING,gs_FIRST_STANDING⟩)
  (y_FIRST_STANDING:PySem.W.nsIn K mainGlobals "FIRST_STANDING" = some (some (.ref ga_FIRST_STANDING)))
  {t_ASK:Tok} (y_ASK:PySem.W.nsIn K mainGlobals "ASK" = some (some (.str "a" t_ASK)))
  {t_KNOCK:Tok} (y_KNOCK:PySem.W.nsIn K mainGlobals "KNOCK" = some (some (.str "k" t_KNOCK)))
  {t_SERVED:Tok} (y_SERVED:PySem.W.nsIn K mainGlobals "SERVED" = some (some (.str "served" t_SERVED)))
  {c T:Addr} (hcd:cd24=.ref c):∃fd:FuncData,(∀(s:Shared) (v:Value),BindsTo s fd ⟨[v],[]⟩ [("_law_script",v)])/\∀base:Heap,K.In base->base.Ns mainGlobals mg->zaa mg base->PySem.W.CodeHd base c T->FnOk l.prog w K mg base CX0 13 fa fd ["_law_script"] (qz "losing_story.<locals>.<lambda>" T (yh K zek)):=by
 have e:=hfa.symm.trans (PySem.W.mg_of X G a41)
 cases e;have B:Blt mg:=⟨PySem.W.mg_none_of X G z_len,PySem.W.mg_none_of X G z_range,PySem.W.mg_none_of X G z_enumerate,PySem.W.mg_none_of X G z_sum,PySem.W.mg_none_of X G z_min,PySem.W.mg_none_of X G z_max,PySem.W.mg_none_of X G z_repr,PySem.W.mg_none_of X G z_isinstance,PySem.W.mg_none_of X G z_any,PySem.W.mg_none_of X G z_zip,PySem.W.mg_none_of X G z_sorted,PySem.W.mg_none_of X G z_tupleT,PySem.W.mg_none_of X G z_intT,PySem.W.mg_none_of X G z_listT,PySem.W.mg_none_of X G z_strT,PySem.W.mg_none_of X G z_boolT⟩
 have G_SILENT:=PySem.W.mg_of X G y_SILENT;have G_OPEN:=PySem.W.mg_of X G y_OPEN;have G_SHUT:=PySem.W.mg_of X G y_SHUT;have G_TRYING:=PySem.W.mg_of X G y_TRYING;have G_HELD:=PySem.W.mg_of X G y_HELD;have G_FIRST_STANDING:=PySem.W.mg_of X G y_FIRST_STANDING;have N_FIRST_STANDING:∀H,Rep K H (.tuple [(.str "open"),(.int 0)]) (.ref ga_FIRST_STANDING):=λH=>(.tup (zv0 (xs:=[.str "open",.int 0]) yl_FIRST_STANDING (Nat.le_of_ble_eq_true rfl) (.cons ⟨_,rfl⟩ (.cons ⟨_,rfl⟩ .nil))) (.cons .str (.cons .int .nil)))
 have G_ASK:=PySem.W.mg_of X G y_ASK;have G_KNOCK:=PySem.W.mg_of X G y_KNOCK;have G_SERVED:=PySem.W.mg_of X G y_SERVED;have F0:=yq (st:=x6) l0 c0 k0;have b0:=F0.binds (ps:=["thing"]) λ_ _ _ _ _ _ us hl=>by obtain⟨_,rfl⟩:=zde hl;rfl
 have F1:=yq (st:=x8) l1 c1 k1;have b1:=F1.binds (ps:=["thing", "least", "most"]) λ_ _ _ _ _ _ us hl=>by obtain⟨_,_,_,rfl⟩:=ziu hl;rfl
 have F2:=yq (st:=wt) l2 c2 k2;have b2:=F2.binds (ps:=["gaps", "many"]) λ_ _ _ _ _ _ us hl=>by obtain⟨_,_,rfl⟩:=zcp hl;rfl
 have F3:=yq (st:=vr) l3 c3 k3;have b3:=F3.binds (ps:=["gaps", "k"]) λ_ _ _ _ _ _ us hl=>by obtain⟨_,_,rfl⟩:=zcp hl;rfl
 have F4:=yq (st:=xb) l4 c4 k4;have b4:=F4.binds (ps:=["beats"]) λ_ _ _ _ _ _ us hl=>by obtain⟨_,rfl⟩:=zde hl;rfl
 have F5:=yq (st:=xx) l5 c5 k5;have b5:=F5.binds (ps:=["story", "beat"]) λ_ _ _ _ _ _ us hl=>by obtain⟨_,_,rfl⟩:=zcp hl;rfl
 have F6:=yq (st:=xj) l6 c6 k6;have b6:=F6.binds (ps:=["story", "first", "last"]) λ_ _ _ _ _ _ us hl=>by obtain⟨_,_,_,rfl⟩:=ziu hl;rfl
 have F7:=yq (st:=x9) l7 c7 k7;have b7:=F7.binds (ps:=["number", "n"]) λ_ _ _ _ _ _ us hl=>by obtain⟨_,_,rfl⟩:=zcp hl;rfl
 have F8:=yq (st:=jr) l8 c8 k8;have b8:=F8.binds (ps:=["gate", "standing", "beat"]) λ_ _ _ _ _ _ us hl=>by obtain⟨_,_,_,rfl⟩:=ziu hl;rfl
 have F9:=yq (st:=qm) l9 c9 k9;have b9:=F9.binds (ps:=["gate", "standing", "beat", "answered"]) λ_ _ _ _ _ _ us hl=>by obtain⟨_,_,_,_,rfl⟩:=zfg hl;rfl
 have F10:=yq (st:=xr) l10 c10 k10;have b10:=F10.binds (ps:=["gate", "bad", "beat", "answered"]) λ_ _ _ _ _ _ us hl=>by obtain⟨_,_,_,_,rfl⟩:=zfg hl;rfl
 have F11:=yq (st:=xc) l11 c11 k11;have b11:=F11.binds (ps:=["gate", "standing", "beat", "answered"]) λ_ _ _ _ _ _ us hl=>by obtain⟨_,_,_,_,rfl⟩:=zfg hl;rfl
 have F12:=yq (st:=xk) l12 c12 k12;have b12:=F12.binds (ps:=["purse", "coins", "many"]) λ_ _ _ _ _ _ us hl=>by obtain⟨_,_,_,rfl⟩:=ziu hl;rfl
 have F13:=yq (st:=wu) l13 c13 k13;have b13:=F13.binds (ps:=["purse", "coins"]) λ_ _ _ _ _ _ us hl=>by obtain⟨_,_,rfl⟩:=zcp hl;rfl
 have F14:=yq (st:=wa) l14 c14 k14;have b14:=F14.binds (ps:=["purse", "coins", "sign"]) λ_ _ _ _ _ _ us hl=>by obtain⟨_,_,_,rfl⟩:=ziu hl;rfl
 have F15:=yq (st:=wc) l15 c15 k15;have b15:=F15.binds (ps:=["caller"]) λ_ _ _ _ _ _ us hl=>by obtain⟨_,rfl⟩:=zde hl;rfl
 have F16:=yq (st:=wv) l16 c16 k16;have b16:=F16.binds (ps:=["gate", "standing", "beat", "sound"]) λ_ _ _ _ _ _ us hl=>by obtain⟨_,_,_,_,rfl⟩:=zfg hl;rfl
 have F17:=yq (st:=ww) l17 c17 k17;have b17:=F17.binds (ps:=["caller", "coins", "beat", "begin", "tries"]) λ_ _ _ _ _ _ us hl=>by obtain⟨_,_,_,_,_,rfl⟩:=zwq hl;rfl
 have F18:=yq (st:=qo) l18 c18 k18;have b18:=F18.binds (ps:=["caller", "standing", "sound", "number", "begin", "tries"]) λ_ _ _ _ _ _ us hl=>by obtain⟨_,_,_,_,_,_,rfl⟩:=zxp hl;rfl
 have F19:=yq (st:=qp) l19 c19 k19;have b19:=F19.binds (ps:=["caller", "standing"]) λ_ _ _ _ _ _ us hl=>by obtain⟨_,_,rfl⟩:=zcp hl;rfl
 have F20:=yq (st:=wx) l20 c20 k20;have b20:=F20.binds (ps:=["caller", "standing", "sound", "many"]) λ_ _ _ _ _ _ us hl=>by obtain⟨_,_,_,_,rfl⟩:=zfg hl;rfl
 have F21:=yq (st:=xl) l21 c21 k21;have b21:=F21.binds (ps:=["caller", "told", "sound", "many"]) λ_ _ _ _ _ _ us hl=>by obtain⟨_,_,_,_,rfl⟩:=zfg hl;rfl
 have F22:=yq (st:=wy) l22 c22 k22;have b22:=F22.binds (ps:=["caller", "beginnings", "story"]) λ_ _ _ _ _ _ us hl=>by obtain⟨_,_,_,rfl⟩:=ziu hl;rfl
 have F23:=yq (st:=wd) l23 c23 k23;have b23:=F23.binds (ps:=["caller", "beginnings"]) λ_ _ _ _ _ _ us hl=>by obtain⟨_,_,rfl⟩:=zcp hl;rfl
 have F24:=yq (st:=xf) l24 c24 k24;have b24:=F24.binds (ps:=["caller", "beginnings"]) λ_ _ _ _ _ _ us hl=>by obtain⟨_,_,rfl⟩:=zcp hl;rfl
 have F25:=yq (st:=xg) l25 c25 k25;have b25:=F25.binds (ps:=["caller", "beginnings"]) λ_ _ _ _ _ _ us hl=>by obtain⟨_,_,rfl⟩:=zcp hl;rfl
 have F26:=yq (st:=xh) l26 c26 k26;have b26:=F26.binds (ps:=["_law_script", "_law_k"]) λ_ _ _ _ _ _ us hl=>by obtain⟨_,_,rfl⟩:=zcp hl;rfl
 have F27:=yq (st:=xy) l27 c27 k27;have b27:=F27.binds (ps:=["_law_seed"]) λ_ _ _ _ _ _ us hl=>by obtain⟨_,rfl⟩:=zde hl;rfl
 have F28:=yq (st:=xm) l28 c28 k28;have b28:=F28.binds (ps:=["_law_cell"]) λ_ _ _ _ _ _ us hl=>by obtain⟨_,rfl⟩:=zde hl;rfl
 have F29:=yq (st:=xz) l29 c29 k29;have b29:=F29.binds (ps:=["_law_pen", "_law_many"]) λ_ _ _ _ _ _ us hl=>by obtain⟨_,_,rfl⟩:=zcp hl;rfl
 have F30:=yq (st:=xn) l30 c30 k30;have b30:=F30.binds (ps:=["_law_pen"]) λ_ _ _ _ _ _ us hl=>by obtain⟨_,rfl⟩:=zde hl;rfl
 have F31:=yq (st:=yx) l31 c31 k31;have b31:=F31.binds (ps:=["_law_pen"]) λ_ _ _ _ _ _ us hl=>by obtain⟨_,rfl⟩:=zde hl;rfl
 have F32:=yq (st:=we) l32 c32 k32;have b32:=F32.binds (ps:=["_law_gaps", "_law_k"]) λ_ _ _ _ _ _ us hl=>by obtain⟨_,_,rfl⟩:=zcp hl;rfl
 have F33:=yq (st:=x0) l33 c33 k33;have b33:=F33.binds (ps:=["_law_gate", "_law_now", "_law_beat", "_law_sound"]) λ_ _ _ _ _ _ us hl=>by obtain⟨_,_,_,_,rfl⟩:=zfg hl;rfl
 have F34:=yq (st:=wf) l34 c34 k34;have b34:=F34.binds (ps:=["_law_caller_here", "_law_state", "_law_sound", "_law_one"]) λ_ _ _ _ _ _ us hl=>by obtain⟨_,_,_,_,rfl⟩:=zfg hl;rfl
 have F35:=yq (st:=x3) l35 c35 k35;have b35:=F35.binds (ps:=["_law_caller_here", "_law_standing", "_law_sound", "_law_many"]) λ_ _ _ _ _ _ us hl=>by obtain⟨_,_,_,_,rfl⟩:=zfg hl;rfl
 have F36:=yq (st:=xt) l36 c36 k36;have b36:=F36.binds (ps:=["_law_caller_here"]) λ_ _ _ _ _ _ us hl=>by obtain⟨_,rfl⟩:=zde hl;rfl
 have F37:=yq (st:=xo) l37 c37 k37;have b37:=F37.binds (ps:=["_law_events"]) λ_ _ _ _ _ _ us hl=>by obtain⟨_,rfl⟩:=zde hl;rfl
 have F38:=yq (st:=x4) l38 c38 k38;have b38:=F38.binds (ps:=["_law_caller_here", "_law_beginnings_here", "_law_number"]) λ_ _ _ _ _ _ us hl=>by obtain⟨_,_,_,rfl⟩:=ziu hl;rfl
 have F39:=yq (st:=xi) l39 c39 k39;have b39:=F39.binds (ps:=["_law_number"]) λ_ _ _ _ _ _ us hl=>by obtain⟨_,rfl⟩:=zde hl;rfl
 have F40:=yq (st:=xp) l40 c40 k40;have b40:=F40.binds (ps:=["_law_number"]) λ_ _ _ _ _ _ us hl=>by obtain⟨_,rfl⟩:=zde hl;rfl
 have F41:=yq (st:=jw) l41 c41 k41;refine⟨PySem.W.fnOf "law" "law" (zl jw) (zj jw) (zd jw) .none kV41 dc41 pm41 an41 cd41 ct41,λs v=>.of_eq rfl,λbase _ _ hB hC=>?_⟩;have C_is_whole:yg l.prog w K mg base _ "is_whole" ["thing"] _:=⟨_,_,zio B F0  ,b0,k0,PySem.W.mg_of X G a0⟩
 have C_growing:yg l.prog w K mg base _ "growing" ["gaps", "many"] _:=⟨_,_,zj8 B F2  ,b2,k2,PySem.W.mg_of X G a2⟩
 have C_stretches_of:yg l.prog w K mg base _ "stretches_of" ["beats"] _:=⟨_,_,zdb B F4  ,b4,k4,PySem.W.mg_of X G a4⟩
 have C_silent_at:yg l.prog w K mg base _ "silent_at" ["story", "beat"] _:=⟨_,_,zg4 B F5  ,b5,k5,PySem.W.mg_of X G a5⟩
 have C_silent_many:yg l.prog w K mg base _ "silent_many" ["story", "first", "last"] _:=⟨_,_,zez B F6  ,b6,k6,PySem.W.mg_of X G a6⟩
 have C_lets:yg l.prog w K mg base _ "lets" ["gate", "standing", "beat"] _:=⟨_,_,zrk B F8 G_SHUT G_TRYING ,b8,k8,PySem.W.mg_of X G a8⟩
 have C_heard_open:yg l.prog w K mg base _ "heard_open" ["gate", "bad", "beat", "answered"] _:=⟨_,_,zfd B F10 G_FIRST_STANDING N_FIRST_STANDING G_OPEN G_SHUT ,b10,k10,PySem.W.mg_of X G a10⟩
 have C_heard_trying:yg l.prog w K mg base _ "heard_trying" ["gate", "standing", "beat", "answered"] _:=⟨_,_,zc7 B F11 G_FIRST_STANDING N_FIRST_STANDING G_TRYING G_SHUT ,b11,k11,PySem.W.mg_of X G a11⟩
 have C_coins_asked:yg l.prog w K mg base _ "coins_asked" ["purse", "coins", "many"] _:=⟨_,_,zeq B F12  ,b12,k12,PySem.W.mg_of X G a12⟩
 have C_can_pay:yg l.prog w K mg base _ "can_pay" ["purse", "coins"] _:=⟨_,_,zka B F13  ,b13,k13,PySem.W.mg_of X G a13⟩
 have C_first_of:yg l.prog w K mg base _ "first_of" ["caller"] _:=⟨_,_,zig B F15 G_FIRST_STANDING N_FIRST_STANDING ,b15,k15,PySem.W.mg_of X G a15⟩
 have C__law_cell_at:yg l.prog w K mg base _ "_law_cell_at" ["_law_script", "_law_k"] _:=⟨_,_,zc6 B F26  ,b26,k26,PySem.W.mg_of X G a26⟩
 have C__law_next:yg l.prog w K mg base _ "_law_next" ["_law_seed"] _:=⟨_,_,zg2 B F27  ,b27,k27,PySem.W.mg_of X G a27⟩
 have C__law_pen_of:yg l.prog w K mg base _ "_law_pen_of" ["_law_cell"] _:=⟨_,_,zej B F28  ,b28,k28,PySem.W.mg_of X G a28⟩
 have C__law_gap:yg l.prog w K mg base _ "_law_gap" ["_law_gaps", "_law_k"] _:=⟨_,_,zil B F32  ,b32,k32,PySem.W.mg_of X G a32⟩
 have C__law_hear:yg l.prog w K mg base _ "_law_hear" ["_law_gate", "_law_now", "_law_beat", "_law_sound"] _:=⟨_,_,zg6 B F33  ,b33,k33,PySem.W.mg_of X G a33⟩
 have C__law_first:yg l.prog w K mg base _ "_law_first" ["_law_caller_here"] _:=⟨_,_,zfe B F36  ,b36,k36,PySem.W.mg_of X G a36⟩
 have C__law_counts:yg l.prog w K mg base _ "_law_counts" ["_law_events"] _:=⟨_,_,zev B F37  ,b37,k37,PySem.W.mg_of X G a37⟩
 have C__law_by_bits:yg l.prog w K mg base _ "_law_by_bits" ["_law_number"] _:=⟨_,_,zda B F39  ,b39,k39,PySem.W.mg_of X G a39⟩
 have C__law_silent:yg l.prog w K mg base _ "_law_silent" ["_law_number"] _:=⟨_,_,ze2 B F40  ,b40,k40,PySem.W.mg_of X G a40⟩
 have C_whole_in:yg l.prog w K mg base _ "whole_in" ["thing", "least", "most"] _:=⟨_,_,ziq B F1  C_is_whole,b1,k1,PySem.W.mg_of X G a1⟩
 have C_gap_at:yg l.prog w K mg base _ "gap_at" ["gaps", "k"] _:=⟨_,_,zm9 B F3  C_growing,b3,k3,PySem.W.mg_of X G a3⟩
 have C_heard:yg l.prog w K mg base _ "heard" ["gate", "standing", "beat", "answered"] _:=⟨_,_,zpq B F9 G_SHUT G_OPEN C_heard_open C_heard_trying,b9,k9,PySem.W.mg_of X G a9⟩
 have C_coins_by:yg l.prog w K mg base _ "coins_by" ["purse", "coins", "sign"] _:=⟨_,_,zif B F14 G_ASK C_coins_asked C_can_pay,b14,k14,PySem.W.mg_of X G a14⟩
 have C__law_draw:yg l.prog w K mg base _ "_law_draw" ["_law_pen", "_law_many"] _:=⟨_,_,zg3 B F29  C__law_next,b29,k29,PySem.W.mg_of X G a29⟩
 have C__law_try:yg l.prog w K mg base _ "_law_try" ["_law_caller_here", "_law_state", "_law_sound", "_law_one"] _:=⟨_,_,zim B F34  C__law_gap C__law_hear,b34,k34,PySem.W.mg_of X G a34⟩
 have C_story_at:yg l.prog w K mg base _ "story_at" ["number", "n"] _:=⟨_,_,zit B F7  C_whole_in C_stretches_of,b7,k7,PySem.W.mg_of X G a7⟩
 have C_knocked:yg l.prog w K mg base _ "knocked" ["gate", "standing", "beat", "sound"] _:=⟨_,_,zkb B F16 G_HELD G_SERVED G_SILENT C_lets C_heard,b16,k16,PySem.W.mg_of X G a16⟩
 have C_what_of:yg l.prog w K mg base _ "what_of" ["caller", "coins", "beat", "begin", "tries"] _:=⟨_,_,zkc B F17  C_gap_at C_can_pay,b17,k17,PySem.W.mg_of X G a17⟩
 have C_asked:yg l.prog w K mg base _ "asked" ["caller", "standing"] _:=⟨_,_,zpt B F19 G_ASK C_coins_by,b19,k19,PySem.W.mg_of X G a19⟩
 have C__law_caller:yg l.prog w K mg base _ "_law_caller" ["_law_pen"] _:=⟨_,_,zew B F30  C__law_draw,b30,k30,PySem.W.mg_of X G a30⟩
 have C__law_beginnings:yg l.prog w K mg base _ "_law_beginnings" ["_law_pen"] _:=⟨_,_,zbg B F31  C__law_draw,b31,k31,PySem.W.mg_of X G a31⟩
 have C__law_step:yg l.prog w K mg base _ "_law_step" ["_law_caller_here", "_law_standing", "_law_sound", "_law_many"] _:=⟨_,_,zg7 B F35  C__law_try,b35,k35,PySem.W.mg_of X G a35⟩
 have C_tried:yg l.prog w K mg base _ "tried" ["caller", "standing", "sound", "number", "begin", "tries"] _:=⟨_,_,zps B F18 G_SERVED G_KNOCK C_coins_by C_knocked C_what_of,b18,k18,PySem.W.mg_of X G a18⟩
 have C__law_gone:yg l.prog w K mg base _ "_law_gone" ["_law_caller_here", "_law_beginnings_here", "_law_number"] _:=⟨_,_,zg9 B F38  C__law_step C__law_first C__law_counts,b38,k38,PySem.W.mg_of X G a38⟩
 have C_stepped:yg l.prog w K mg base _ "stepped" ["caller", "standing", "sound", "many"] _:=⟨_,_,zkd B F20  C_tried C_asked,b20,k20,PySem.W.mg_of X G a20⟩
 have C_told_behind:yg l.prog w K mg base _ "told_behind" ["caller", "told", "sound", "many"] _:=⟨_,_,zet B F21 G_HELD G_SERVED C_stepped,b21,k21,PySem.W.mg_of X G a21⟩
 have C_told_of:yg l.prog w K mg base _ "told_of" ["caller", "beginnings", "story"] _:=⟨_,_,zkf B F22  C_silent_at C_first_of C_told_behind,b22,k22,PySem.W.mg_of X G a22⟩
 have C_all_told:yg l.prog w K mg base _ "all_told" ["caller", "beginnings"] _:=⟨_,_,zir B F23  C_first_of C_told_behind,b23,k23,PySem.W.mg_of X G a23⟩
 have C_losing_story:yg l.prog w K mg base _ "losing_story" ["caller", "beginnings"] _:=⟨_,_,zdc B F24 hB hC hcd  C_silent_many C_story_at C_all_told,b24,k24,PySem.W.mg_of X G a24⟩
 have C_least_silent:yg l.prog w K mg base _ "least_silent" ["caller", "beginnings"] _:=⟨_,_,zdd B F25  C_silent_many C_losing_story,b25,k25,PySem.W.mg_of X G a25⟩
 exact zu4 B F41  C_told_of C_losing_story C_least_silent C__law_cell_at C__law_pen_of C__law_caller C__law_beginnings C__law_gone C__law_by_bits C__law_silent
theorem nF{a d s}{g:FuncData}:(⟨a,d,.func g,s⟩:Obj)≠zc4:=λz=>by cases z
theorem all_mkT{l:PySem.W.OpenLaw}{w:World}{K:PySem.W.Frag}{h:Heap}{mg:Str->Option Value}{fa f0 f1 f2 f3 f4 f5 f6 f7 f8 f9 f10 f11 f12 f13 f14 f15 f16 f17 f18 f19 f20 f21 f22 f23 f24 f25 f26 f27 f28 f29 f30 f31 f32 f33 f34 f35 f36 f37 f38 f39 f40 f41:Addr}(X:K.In h)(G:h.Ns mainGlobals mg)(hfa:mg "law" = some (.ref fa))
  {od0 an0:Option Addr}{sl0:Array (Option Value)}{oc0 kV0 dc0 pm0 cd0 ct0:Value}
  (a0:PySem.W.nsIn K mainGlobals "is_whole" = some (some (.ref f0))) (l0:K.lookup f0=some ⟨oc0,od0,.func (PySem.W.fnOf "is_whole" "is_whole" (zl x6) (zj x6) (zd x6) .none kV0 dc0 pm0 an0 cd0 ct0),sl0⟩) (c0:PySem.W.codeIn K cd0 "is_whole" = true) (k0:PySem.W.keepIn K (.ref f0)=true)
  {od1 an1:Option Addr}{sl1:Array (Option Value)}{oc1 kV1 dc1 pm1 cd1 ct1:Value}
  (a1:PySem.W.nsIn K mainGlobals "whole_in" = some (some (.ref f1))) (l1:K.lookup f1=some ⟨oc1,od1,.func (PySem.W.fnOf "whole_in" "whole_in" (zl x8) (zj x8) (zd x8) .none kV1 dc1 pm1 an1 cd1 ct1),sl1⟩) (c1:PySem.W.codeIn K cd1 "whole_in" = true) (k1:PySem.W.keepIn K (.ref f1)=true)
  {od2 an2:Option Addr}{sl2:Array (Option Value)}{oc2 kV2 dc2 pm2 cd2 ct2:Value}
  (a2:PySem.W.nsIn K mainGlobals "growing" = some (some (.ref f2))) (l2:K.lookup f2=some ⟨oc2,od2,.func (PySem.W.fnOf "growing" "growing" (zl wt) (zj wt) (zd wt) .none kV2 dc2 pm2 an2 cd2 ct2),sl2⟩) (c2:PySem.W.codeIn K cd2 "growing" = true) (k2:PySem.W.keepIn K (.ref f2)=true)
  {od3 an3:Option Addr}{sl3:Array (Option Value)}{oc3 kV3 dc3 pm3 cd3 ct3:Value}
  (a3:PySem.W.nsIn K mainGlobals "gap_at" = some (some (.ref f3))) (l3:K.lookup f3=some ⟨oc3,od3,.func (PySem.W.fnOf "gap_at" "gap_at" (zl vr) (zj vr) (zd vr) .none kV3 dc3 pm3 an3 cd3 ct3),sl3⟩) (c3:PySem.W.codeIn K cd3 "gap_at" = true) (k3:PySem.W.keepIn K (.ref f3)=true)
  {od4 an4:Option Addr}{sl4:Array (Option Value)}{oc4 kV4 dc4 pm4 cd4 ct4:Value}
  (a4:PySem.W.nsIn K mainGlobals "stretches_of" = some (some (.ref f4))) (l4:K.lookup f4=some ⟨oc4,od4,.func (PySem.W.fnOf "stretches_of" "stretches_of" (zl xb) (zj xb) (zd xb) .none kV4 dc4 pm4 an4 cd4 ct4),sl4⟩) (c4:PySem.W.codeIn K cd4 "stretches_of" = true) (k4:PySem.W.keepIn K (.ref f4)=true)
  {od5 an5:Option Addr}{sl5:Array (Option Value)}{oc5 kV5 dc5 pm5 cd5 ct5:Value}
  (a5:PySem.W.nsIn K mainGlobals "silent_at" = some (some (.ref f5))) (l5:K.lookup f5=some ⟨oc5,od5,.func (PySem.W.fnOf "silent_at" "silent_at" (zl xx) (zj xx) (zd xx) .none kV5 dc5 pm5 an5 cd5 ct5),sl5⟩) (c5:PySem.W.codeIn K cd5 "silent_at" = true) (k5:PySem.W.keepIn K (.ref f5)=true)
  {od6 an6:Option Addr}{sl6:Array (Option Value)}{oc6 kV6 dc6 pm6 cd6 ct6:Value}
  (a6:PySem.W.nsIn K mainGlobals "silent_many" = some (some (.ref f6))) (l6:K.lookup f6=some ⟨oc6,od6,.func (PySem.W.fnOf "silent_many" "silent_many" (zl xj) (zj xj) (zd xj) .none kV6 dc6 pm6 an6 cd6 ct6),sl6⟩) (c6:PySem.W.codeIn K cd6 "silent_many" = true) (k6:PySem.W.keepIn K (.ref f6)=true)
  {od7 an7:Option Addr}{sl7:Array (Option Value)}{oc7 kV7 dc7 pm7 cd7 ct7:Value}
  (a7:PySem.W.nsIn K mainGlobals "story_at" = some (some (.ref f7))) (l7:K.lookup f7=some ⟨oc7,od7,.func (PySem.W.fnOf "story_at" "story_at" (zl x9) (zj x9) (zd x9) .none kV7 dc7 pm7 an7 cd7 ct7),sl7⟩) (c7:PySem.W.codeIn K cd7 "story_at" = true) (k7:PySem.W.keepIn K (.ref f7)=true)
  {od8 an8:Option Addr}{sl8:Array (Option Value)}{oc8 kV8 dc8 pm8 cd8 ct8:Value}
  (a8:PySem.W.nsIn K mainGlobals "lets" = some (some (.ref f8))) (l8:K.lookup f8=some ⟨oc8,od8,.func (PySem.W.fnOf "lets" "lets" (zl jr) (zj jr) (zd jr) .none kV8 dc8 pm8 an8 cd8 ct8),sl8⟩) (c8:PySem.W.codeIn K cd8 "lets" = true) (k8:PySem.W.keepIn K (.ref f8)=true)
  {od9 an9:Option Addr}{sl9:Array (Option Value)}{oc9 kV9 dc9 pm9 cd9 ct9:Value}
  (a9:PySem.W.nsIn K mainGlobals "heard" = some (some (.ref f9))) (l9:K.lookup f9=some ⟨oc9,od9,.func (PySem.W.fnOf "heard" "heard" (zl qm) (zj qm) (zd qm) .none kV9 dc9 pm9 an9 cd9 ct9),sl9⟩) (c9:PySem.W.codeIn K cd9 "heard" = true) (k9:PySem.W.keepIn K (.ref f9)=true)
  {od10 an10:Option Addr}{sl10:Array (Option Value)}{oc10 kV10 dc10 pm10 cd10 ct10:Value}
  (a10:PySem.W.nsIn K mainGlobals "heard_open" = some (some (.ref f10))) (l10:K.lookup f10=some ⟨oc10,od10,.func (PySem.W.fnOf "heard_open" "heard_open" (zl xr) (zj xr) (zd xr) .none kV10 dc10 pm10 an10 cd10 ct10),sl10⟩) (c10:PySem.W.codeIn K cd10 "heard_open" = true) (k10:PySem.W.keepIn K (.ref f10)=true)
  {od11 an11:Option Addr}{sl11:Array (Option Value)}{oc11 kV11 dc11 pm11 cd11 ct11:Value}
  (a11:PySem.W.nsIn K mainGlobals "heard_trying" = some (some (.ref f11))) (l11:K.lookup f11=some ⟨oc11,od11,.func (PySem.W.fnOf "heard_trying" "heard_trying" (zl xc) (zj xc) (zd xc) .none kV11 dc11 pm11 an11 cd11 ct11),sl11⟩) (c11:PySem.W.codeIn K cd11 "heard_trying" = true) (k11:PySem.W.keepIn K (.ref f11)=true)
  {od12 an12:Option Addr}{sl12:Array (Option Value)}{oc12 kV12 dc12 pm12 cd12 ct12:Value}
  (a12:PySem.W.nsIn K mainGlobals "coins_asked" = some (some (.ref f12))) (l12:K.lookup f12=some ⟨oc12,od12,.func (PySem.W.fnOf "coins_asked" "coins_asked" (zl xk) (zj xk) (zd xk) .none kV12 dc12 pm12 an12 cd12 ct12),sl12⟩) (c12:PySem.W.codeIn K cd12 "coins_asked" = true) (k12:PySem.W.keepIn K (.ref f12)=true)
  {od13 an13:Option Addr}{sl13:Array (Option Value)}{oc13 kV13 dc13 pm13 cd13 ct13:Value}
  (a13:PySem.W.nsIn K mainGlobals "can_pay" = some (some (.ref f13))) (l13:K.lookup f13=some ⟨oc13,od13,.func (PySem.W.fnOf "can_pay" "can_pay" (zl wu) (zj wu) (zd wu) .none kV13 dc13 pm13 an13 cd13 ct13),sl13⟩) (c13:PySem.W.codeIn K cd13 "can_pay" = true) (k13:PySem.W.keepIn K (.ref f13)=true)
  {od14 an14:Option Addr}{sl14:Array (Option Value)}{oc14 kV14 dc14 pm14 cd14 ct14:Value}
  (a14:PySem.W.nsIn K mainGlobals "coins_by" = some (some (.ref f14))) (l14:K.lookup f14=some ⟨oc14,od14,.func (PySem.W.fnOf "coins_by" "coins_by" (zl wa) (zj wa) (zd wa) .none kV14 dc14 pm14 an14 cd14 ct14),sl14⟩) (c14:PySem.W.codeIn K cd14 "coins_by" = true) (k14:PySem.W.keepIn K (.ref f14)=true)
  {od15 an15:Option Addr}{sl15:Array (Option Value)}{oc15 kV15 dc15 pm15 cd15 ct15:Value}
  (a15:PySem.W.nsIn K mainGlobals "first_of" = some (some (.ref f15))) (l15:K.lookup f15=some ⟨oc15,od15,.func (PySem.W.fnOf "first_of" "first_of" (zl wc) (zj wc) (zd wc) .none kV15 dc15 pm15 an15 cd15 ct15),sl15⟩) (c15:PySem.W.codeIn K cd15 "first_of" = true) (k15:PySem.W.keepIn K (.ref f15)=true)
  {od16 an16:Option Addr}{sl16:Array (Option Value)}{oc16 kV16 dc16 pm16 cd16 ct16:Value}
  (a16:PySem.W.nsIn K mainGlobals "knocked" = some (some (.ref f16))) (l16:K.lookup f16=some ⟨oc16,od16,.func (PySem.W.fnOf "knocked" "knocked" (zl wv) (zj wv) (zd wv) .none kV16 dc16 pm16 an16 cd16 ct16),sl16⟩) (c16:PySem.W.codeIn K cd16 "knocked" = true) (k16:PySem.W.keepIn K (.ref f16)=true)
  {od17 an17:Option Addr}{sl17:Array (Option Value)}{oc17 kV17 dc17 pm17 cd17 ct17:Value}
  (a17:PySem.W.nsIn K mainGlobals "what_of" = some (some (.ref f17))) (l17:K.lookup f17=some ⟨oc17,od17,.func (PySem.W.fnOf "what_of" "what_of" (zl ww) (zj ww) (zd ww) .none kV17 dc17 pm17 an17 cd17 ct17),sl17⟩) (c17:PySem.W.codeIn K cd17 "what_of" = true) (k17:PySem.W.keepIn K (.ref f17)=true)
  {od18 an18:Option Addr}{sl18:Array (Option Value)}{oc18 kV18 dc18 pm18 cd18 ct18:Value}
  (a18:PySem.W.nsIn K mainGlobals "tried" = some (some (.ref f18))) (l18:K.lookup f18=some ⟨oc18,od18,.func (PySem.W.fnOf "tried" "tried" (zl qo) (zj qo) (zd qo) .none kV18 dc18 pm18 an18 cd18 ct18),sl18⟩) (c18:PySem.W.codeIn K cd18 "tried" = true) (k18:PySem.W.keepIn K (.ref f18)=true)
  {od19 an19:Option Addr}{sl19:Array (Option Value)}{oc19 kV19 dc19 pm19 cd19 ct19:Value}
  (a19:PySem.W.nsIn K mainGlobals "asked" = some (some (.ref f19))) (l19:K.lookup f19=some ⟨oc19,od19,.func (PySem.W.fnOf "asked" "asked" (zl qp) (zj qp) (zd qp) .none kV19 dc19 pm19 an19 cd19 ct19),sl19⟩) (c19:PySem.W.codeIn K cd19 "asked" = true) (k19:PySem.W.keepIn K (.ref f19)=true)
  {od20 an20:Option Addr}{sl20:Array (Option Value)}{oc20 kV20 dc20 pm20 cd20 ct20:Value}
  (a20:PySem.W.nsIn K mainGlobals "stepped" = some (some (.ref f20))) (l20:K.lookup f20=some ⟨oc20,od20,.func (PySem.W.fnOf "stepped" "stepped" (zl wx) (zj wx) (zd wx) .none kV20 dc20 pm20 an20 cd20 ct20),sl20⟩) (c20:PySem.W.codeIn K cd20 "stepped" = true) (k20:PySem.W.keepIn K (.ref f20)=true)
  {od21 an21:Option Addr}{sl21:Array (Option Value)}{oc21 kV21 dc21 pm21 cd21 ct21:Value}
  (a21:PySem.W.nsIn K mainGlobals "told_behind" = some (some (.ref f21))) (l21:K.lookup f21=some ⟨oc21,od21,.func (PySem.W.fnOf "told_behind" "told_behind" (zl xl) (zj xl) (zd xl) .none kV21 dc21 pm21 an21 cd21 ct21),sl21⟩) (c21:PySem.W.codeIn K cd21 "told_behind" = true) (k21:PySem.W.keepIn K (.ref f21)=true)
  {od22 an22:Option Addr}{sl22:Array (Option Value)}{oc22 kV22 dc22 pm22 cd22 ct22:Value}
  (a22:PySem.W.nsIn K mainGlobals "told_of" = some (some (.ref f22))) (l22:K.lookup f22=some ⟨oc22,od22,.func (PySem.W.fnOf "told_of" "told_of" (zl wy) (zj wy) (zd wy) .none kV22 dc22 pm22 an22 cd22 ct22),sl22⟩) (c22:PySem.W.codeIn K cd22 "told_of" = true) (k22:PySem.W.keepIn K (.ref f22)=true)
  {od23 an23:Option Addr}{sl23:Array (Option Value)}{oc23 kV23 dc23 pm23 cd23 ct23:Value}
  (a23:PySem.W.nsIn K mainGlobals "all_told" = some (some (.ref f23))) (l23:K.lookup f23=some ⟨oc23,od23,.func (PySem.W.fnOf "all_told" "all_told" (zl wd) (zj wd) (zd wd) .none kV23 dc23 pm23 an23 cd23 ct23),sl23⟩) (c23:PySem.W.codeIn K cd23 "all_told" = true) (k23:PySem.W.keepIn K (.ref f23)=true)
  {od24 an24:Option Addr}{sl24:Array (Option Value)}{oc24 kV24 dc24 pm24 cd24 ct24:Value}
  (a24:PySem.W.nsIn K mainGlobals "losing_story" = some (some (.ref f24))) (l24:K.lookup f24=some ⟨oc24,od24,.func (PySem.W.fnOf "losing_story" "losing_story" (zl xf) (zj xf) (zd xf) .none kV24 dc24 pm24 an24 cd24 ct24),sl24⟩) (c24:PySem.W.codeIn K cd24 "losing_story" = true) (k24:PySem.W.keepIn K (.ref f24)=true)
  {od25 an25:Option Addr}{sl25:Array (Option Value)}{oc25 kV25 dc25 pm25 cd25 ct25:Value}
  (a25:PySem.W.nsIn K mainGlobals "least_silent" = some (some (.ref f25))) (l25:K.lookup f25=some ⟨oc25,od25,.func (PySem.W.fnOf "least_silent" "least_silent" (zl xg) (zj xg) (zd xg) .none kV25 dc25 pm25 an25 cd25 ct25),sl25⟩) (c25:PySem.W.codeIn K cd25 "least_silent" = true) (k25:PySem.W.keepIn K (.ref f25)=true)
  {od26 an26:Option Addr}{sl26:Array (Option Value)}{oc26 kV26 dc26 pm26 cd26 ct26:Value}
  (a26:PySem.W.nsIn K mainGlobals "_law_cell_at" = some (some (.ref f26))) (l26:K.lookup f26=some ⟨oc26,od26,.func (PySem.W.fnOf "_law_cell_at" "_law_cell_at" (zl xh) (zj xh) (zd xh) .none kV26 dc26 pm26 an26 cd26 ct26),sl26⟩) (c26:PySem.W.codeIn K cd26 "_law_cell_at" = true) (k26:PySem.W.keepIn K (.ref f26)=true)
  {od27 an27:Option Addr}{sl27:Array (Option Value)}{oc27 kV27 dc27 pm27 cd27 ct27:Value}
  (a27:PySem.W.nsIn K mainGlobals "_law_next" = some (some (.ref f27))) (l27:K.lookup f27=some ⟨oc27,od27,.func (PySem.W.fnOf "_law_next" "_law_next" (zl xy) (zj xy) (zd xy) .none kV27 dc27 pm27 an27 cd27 ct27),sl27⟩) (c27:PySem.W.codeIn K cd27 "_law_next" = true) (k27:PySem.W.keepIn K (.ref f27)=true)
  {od28 an28:Option Addr}{sl28:Array (Option Value)}{oc28 kV28 dc28 pm28 cd28 ct28:Value}
  (a28:PySem.W.nsIn K mainGlobals "_law_pen_of" = some (some (.ref f28))) (l28:K.lookup f28=some ⟨oc28,od28,.func (PySem.W.fnOf "_law_pen_of" "_law_pen_of" (zl xm) (zj xm) (zd xm) .none kV28 dc28 pm28 an28 cd28 ct28),sl28⟩) (c28:PySem.W.codeIn K cd28 "_law_pen_of" = true) (k28:PySem.W.keepIn K (.ref f28)=true)
  {od29 an29:Option Addr}{sl29:Array (Option Value)}{oc29 kV29 dc29 pm29 cd29 ct29:Value}
  (a29:PySem.W.nsIn K mainGlobals "_law_draw" = some (some (.ref f29))) (l29:K.lookup f29=some ⟨oc29,od29,.func (PySem.W.fnOf "_law_draw" "_law_draw" (zl xz) (zj xz) (zd xz) .none kV29 dc29 pm29 an29 cd29 ct29),sl29⟩) (c29:PySem.W.codeIn K cd29 "_law_draw" = true) (k29:PySem.W.keepIn K (.ref f29)=true)
  {od30 an30:Option Addr}{sl30:Array (Option Value)}{oc30 kV30 dc30 pm30 cd30 ct30:Value}
  (a30:PySem.W.nsIn K mainGlobals "_law_caller" = some (some (.ref f30))) (l30:K.lookup f30=some ⟨oc30,od30,.func (PySem.W.fnOf "_law_caller" "_law_caller" (zl xn) (zj xn) (zd xn) .none kV30 dc30 pm30 an30 cd30 ct30),sl30⟩) (c30:PySem.W.codeIn K cd30 "_law_caller" = true) (k30:PySem.W.keepIn K (.ref f30)=true)
  {od31 an31:Option Addr}{sl31:Array (Option Value)}{oc31 kV31 dc31 pm31 cd31 ct31:Value}
  (a31:PySem.W.nsIn K mainGlobals "_law_beginnings" = some (some (.ref f31))) (l31:K.lookup f31=some ⟨oc31,od31,.func (PySem.W.fnOf "_law_beginnings" "_law_beginnings" (zl yx) (zj yx) (zd yx) .none kV31 dc31 pm31 an31 cd31 ct31),sl31⟩) (c31:PySem.W.codeIn K cd31 "_law_beginnings" = true) (k31:PySem.W.keepIn K (.ref f31)=true)
  {od32 an32:Option Addr}{sl32:Array (Option Value)}{oc32 kV32 dc32 pm32 cd32 ct32:Value}
  (a32:PySem.W.nsIn K mainGlobals "_law_gap" = some (some (.ref f32))) (l32:K.lookup f32=some ⟨oc32,od32,.func (PySem.W.fnOf "_law_gap" "_law_gap" (zl we) (zj we) (zd we) .none kV32 dc32 pm32 an32 cd32 ct32),sl32⟩) (c32:PySem.W.codeIn K cd32 "_law_gap" = true) (k32:PySem.W.keepIn K (.ref f32)=true)
  {od33 an33:Option Addr}{sl33:Array (Option Value)}{oc33 kV33 dc33 pm33 cd33 ct33:Value}
  (a33:PySem.W.nsIn K mainGlobals "_law_hear" = some (some (.ref f33))) (l33:K.lookup f33=some ⟨oc33,od33,.func (PySem.W.fnOf "_law_hear" "_law_hear" (zl x0) (zj x0) (zd x0) .none kV33 dc33 pm33 an33 cd33 ct33),sl33⟩) (c33:PySem.W.codeIn K cd33 "_law_hear" = true) (k33:PySem.W.keepIn K (.ref f33)=true)
  {od34 an34:Option Addr}{sl34:Array (Option Value)}{oc34 kV34 dc34 pm34 cd34 ct34:Value}
  (a34:PySem.W.nsIn K mainGlobals "_law_try" = some (some (.ref f34))) (l34:K.lookup f34=some ⟨oc34,od34,.func (PySem.W.fnOf "_law_try" "_law_try" (zl wf) (zj wf) (zd wf) .none kV34 dc34 pm34 an34 cd34 ct34),sl34⟩) (c34:PySem.W.codeIn K cd34 "_law_try" = true) (k34:PySem.W.keepIn K (.ref f34)=true)
  {od35 an35:Option Addr}{sl35:Array (Option Value)}{oc35 kV35 dc35 pm35 cd35 ct35:Value}
  (a35:PySem.W.nsIn K mainGlobals "_law_step" = some (some (.ref f35))) (l35:K.lookup f35=some ⟨oc35,od35,.func (PySem.W.fnOf "_law_step" "_law_step" (zl x3) (zj x3) (zd x3) .none kV35 dc35 pm35 an35 cd35 ct35),sl35⟩) (c35:PySem.W.codeIn K cd35 "_law_step" = true) (k35:PySem.W.keepIn K (.ref f35)=true)
  {od36 an36:Option Addr}{sl36:Array (Option Value)}{oc36 kV36 dc36 pm36 cd36 ct36:Value}
  (a36:PySem.W.nsIn K mainGlobals "_law_first" = some (some (.ref f36))) (l36:K.lookup f36=some ⟨oc36,od36,.func (PySem.W.fnOf "_law_first" "_law_first" (zl xt) (zj xt) (zd xt) .none kV36 dc36 pm36 an36 cd36 ct36),sl36⟩) (c36:PySem.W.codeIn K cd36 "_law_first" = true) (k36:PySem.W.keepIn K (.ref f36)=true)
  {od37 an37:Option Addr}{sl37:Array (Option Value)}{oc37 kV37 dc37 pm37 cd37 ct37:Value}
  (a37:PySem.W.nsIn K mainGlobals "_law_counts" = some (some (.ref f37))) (l37:K.lookup f37=some ⟨oc37,od37,.func (PySem.W.fnOf "_law_counts" "_law_counts" (zl xo) (zj xo) (zd xo) .none kV37 dc37 pm37 an37 cd37 ct37),sl37⟩) (c37:PySem.W.codeIn K cd37 "_law_counts" = true) (k37:PySem.W.keepIn K (.ref f37)=true)
  {od38 an38:Option Addr}{sl38:Array (Option Value)}{oc38 kV38 dc38 pm38 cd38 ct38:Value}
  (a38:PySem.W.nsIn K mainGlobals "_law_gone" = some (some (.ref f38))) (l38:K.lookup f38=some ⟨oc38,od38,.func (PySem.W.fnOf "_law_gone" "_law_gone" (zl x4) (zj x4) (zd x4) .none kV38 dc38 pm38 an38 cd38 ct38),sl38⟩) (c38:PySem.W.codeIn K cd38 "_law_gone" = true) (k38:PySem.W.keepIn K (.ref f38)=true)
  {od39 an39:Option Addr}{sl39:Array (Option Value)}{oc39 kV39 dc39 pm39 cd39 ct39:Value}
  (a39:PySem.W.nsIn K mainGlobals "_law_by_bits" = some (some (.ref f39))) (l39:K.lookup f39=some ⟨oc39,od39,.func (PySem.W.fnOf "_law_by_bits" "_law_by_bits" (zl xi) (zj xi) (zd xi) .none kV39 dc39 pm39 an39 cd39 ct39),sl39⟩) (c39:PySem.W.codeIn K cd39 "_law_by_bits" = true) (k39:PySem.W.keepIn K (.ref f39)=true)
  {od40 an40:Option Addr}{sl40:Array (Option Value)}{oc40 kV40 dc40 pm40 cd40 ct40:Value}
  (a40:PySem.W.nsIn K mainGlobals "_law_silent" = some (some (.ref f40))) (l40:K.lookup f40=some ⟨oc40,od40,.func (PySem.W.fnOf "_law_silent" "_law_silent" (zl xp) (zj xp) (zd xp) .none kV40 dc40 pm40 an40 cd40 ct40),sl40⟩) (c40:PySem.W.codeIn K cd40 "_law_silent" = true) (k40:PySem.W.keepIn K (.ref f40)=true)
  {od41 an41:Option Addr}{sl41:Array (Option Value)}{oc41 kV41 dc41 pm41 cd41 ct41:Value}
  (a41:PySem.W.nsIn K mainGlobals "law" = some (some (.ref f41))) (l41:K.lookup f41=some ⟨oc41,od41,.func (PySem.W.fnOf "law" "law" (zl jw) (zj jw) (zd jw) .none kV41 dc41 pm41 an41 cd41 ct41),sl41⟩) (c41:PySem.W.codeIn K cd41 "law" = true) (k41:PySem.W.keepIn K (.ref f41)=true)
  (z_len:PySem.W.nsIn K mainGlobals "len" = some none)
  (z_range:PySem.W.nsIn K mainGlobals "range" = some none)
  (z_enumerate:PySem.W.nsIn K mainGlobals "enumerate" = some none)
  (z_sum:PySem.W.nsIn K mainGlobals "sum" = some none)
  (z_min:PySem.W.nsIn K mainGlobals "min" = some none)
  (z_max:PySem.W.nsIn K mainGlobals "max" = some none)
  (z_repr:PySem.W.nsIn K mainGlobals "repr" = some none)
  (z_isinstance:PySem.W.nsIn K mainGlobals "isinstance" = some none)
  (z_any:PySem.W.nsIn K mainGlobals "any" = some none)
  (z_zip:PySem.W.nsIn K mainGlobals "zip" = some none)
  (z_sorted:PySem.W.nsIn K mainGlobals "sorted" = some none)
  (z_tupleT:PySem.W.nsIn K mainGlobals "tuple" = some none)
  (z_intT:PySem.W.nsIn K mainGlobals "int" = some none)
  (z_listT:PySem.W.nsIn K mainGlobals "list" = some none)
  (z_strT:PySem.W.nsIn K mainGlobals "str" = some none)
  (z_boolT:PySem.W.nsIn K mainGlobals "bool" = some none)
  {t_SILENT:Tok} (y_SILENT:PySem.W.nsIn K mainGlobals "SILENT" = some (some (.str "silent" t_SILENT)))
  {t_OPEN:Tok} (y_OPEN:PySem.W.nsIn K mainGlobals "OPEN" = some (some (.str "open" t_OPEN)))
  {t_SHUT:Tok} (y_SHUT:PySem.W.nsIn K mainGlobals "SHUT" = some (some (.str "shut" t_SHUT)))
  {t_TRYING:Tok} (y_TRYING:PySem.W.nsIn K mainGlobals "TRYING" = some (some (.str "trying" t_TRYING)))
  {t_HELD:Tok} (y_HELD:PySem.W.nsIn K mainGlobals "HELD" = some (some (.str "held" t_HELD)))
  {gt_FIRST_STANDING_0:Tok}{gt_FIRST_STANDING_1:Tok}{ga_FIRST_STANDING:Addr}{gn_FIRST_STANDING:Nat}{gs_FIRST_STANDING:Array (Option Value)} (yl_FIRST_STANDING:K.lookup ga_FIRST_STANDING=some ⟨.type "tuple",none,.seq #[.str "open" gt_FIRST_STANDING_0,.int 0 gt_FIRST_STANDING_1] gn_FIRST_STANDING,gs_FIRST_STANDING⟩)
  (y_FIRST_STANDING:PySem.W.nsIn K mainGlobals "FIRST_STANDING" = some (some (.ref ga_FIRST_STANDING)))
  {t_ASK:Tok} (y_ASK:PySem.W.nsIn K mainGlobals "ASK" = some (some (.str "a" t_ASK)))
  {t_KNOCK:Tok} (y_KNOCK:PySem.W.nsIn K mainGlobals "KNOCK" = some (some (.str "k" t_KNOCK)))
  {t_SERVED:Tok} (y_SERVED:PySem.W.nsIn K mainGlobals "SERVED" = some (some (.str "served" t_SERVED)))
  {c T:Addr}{ocT:Obj} (hcd:cd24=.ref c) (lc:K.lookup c=some ocT) (hO:HdO ocT T) (hne:c≠T) (gT0:h.get? T=some zc4):∃fd:FuncData,(∀(s:Shared) (v:Value),BindsTo s fd ⟨[v],[]⟩ [("_law_script",v)])/\∃(c:Addr) (oc:Obj),K.lookup c=some oc/\HdO oc T/\c≠T/\∀base:Heap,(vh T K).In base->base.Ns mainGlobals mg->zaa mg base->PySem.W.CodeHd base c T->FnOk l.prog w (vh T K) mg base CX0 13 fa fd ["_law_script"] (qz "losing_story.<locals>.<lambda>" T (yh (vh T K) zek)):=by
 have gT:mainGlobals≠T:=zpg G gT0;obtain⟨fd,hb,hF⟩:=zu5 (l:=l) (w:=w) (K:=vh T K) (c:=c) (T:=T) (zlk X) G hfa ((zo gT).trans a0) (yc X gT0 l0 nF) (zr X gT0 c0) (zt X gT0 l0) ((zo gT).trans a1) (yc X gT0 l1 nF) (zr X gT0 c1) (zt X gT0 l1) ((zo gT).trans a2) (yc X gT0 l2 nF) (zr X gT0 c2) (zt X gT0 l2) ((zo gT).trans a3) (yc X gT0 l3 nF) (zr X gT0 c3) (zt X gT0 l3) ((zo gT).trans a4) (yc X gT0 l4 nF) (zr X gT0 c4) (zt X gT0 l4) ((zo gT).trans a5) (yc X gT0 l5 nF) (zr X gT0 c5) (zt X gT0 l5) ((zo gT).trans a6) (yc X gT0 l6 nF) (zr X gT0 c6) (zt X gT0 l6) ((zo gT).trans a7) (yc X gT0 l7 nF) (zr X gT0 c7) (zt X gT0 l7) ((zo gT).trans a8) (yc X gT0 l8 nF) (zr X gT0 c8) (zt X gT0 l8) ((zo gT).trans a9) (yc X gT0 l9 nF) (zr X gT0 c9) (zt X gT0 l9) ((zo gT).trans a10) (yc X gT0 l10 nF) (zr X gT0 c10) (zt X gT0 l10) ((zo gT).trans a11) (yc X gT0 l11 nF) (zr X gT0 c11) (zt X gT0 l11) ((zo gT).trans a12) (yc X gT0 l12 nF) (zr X gT0 c12) (zt X gT0 l12) ((zo gT).trans a13) (yc X gT0 l13 nF) (zr X gT0 c13) (zt X gT0 l13) ((zo gT).trans a14) (yc X gT0 l14 nF) (zr X gT0 c14) (zt X gT0 l14) ((zo gT).trans a15) (yc X gT0 l15 nF) (zr X gT0 c15) (zt X gT0 l15) ((zo gT).trans a16) (yc X gT0 l16 nF) (zr X gT0 c16) (zt X gT0 l16) ((zo gT).trans a17) (yc X gT0 l17 nF) (zr X gT0 c17) (zt X gT0 l17) ((zo gT).trans a18) (yc X gT0 l18 nF) (zr X gT0 c18) (zt X gT0 l18) ((zo gT).trans a19) (yc X gT0 l19 nF) (zr X gT0 c19) (zt X gT0 l19) ((zo gT).trans a20) (yc X gT0 l20 nF) (zr X gT0 c20) (zt X gT0 l20) ((zo gT).trans a21) (yc X gT0 l21 nF) (zr X gT0 c21) (zt X gT0 l21) ((zo gT).trans a22) (yc X gT0 l22 nF) (zr X gT0 c22) (zt X gT0 l22) ((zo gT).trans a23) (yc X gT0 l23 nF) (zr X gT0 c23) (zt X gT0 l23) ((zo gT).trans a24) (yc X gT0 l24 nF) (zr X gT0 c24) (zt X gT0 l24) ((zo gT).trans a25) (yc X gT0 l25 nF) (zr X gT0 c25) (zt X gT0 l25) ((zo gT).trans a26) (yc X gT0 l26 nF) (zr X gT0 c26) (zt X gT0 l26) ((zo gT).trans a27) (yc X gT0 l27 nF) (zr X gT0 c27) (zt X gT0 l27) ((zo gT).trans a28) (yc X gT0 l28 nF) (zr X gT0 c28) (zt X gT0 l28) ((zo gT).trans a29) (yc X gT0 l29 nF) (zr X gT0 c29) (zt X gT0 l29) ((zo gT).trans a30) (yc X gT0 l30 nF) (zr X gT0 c30) (zt X gT0 l30) ((zo gT).trans a31) (yc X gT0 l31 nF) (zr X gT0 c31) (zt X gT0 l31) ((zo gT).trans a32) (yc X gT0 l32 nF) (zr X gT0 c32) (zt X gT0 l32) ((zo gT).trans a33) (yc X gT0 l33 nF) (zr X gT0 c33) (zt X gT0 l33) ((zo gT).trans a34) (yc X gT0 l34 nF) (zr X gT0 c34) (zt X gT0 l34) ((zo gT).trans a35) (yc X gT0 l35 nF) (zr X gT0 c35) (zt X gT0 l35) ((zo gT).trans a36) (yc X gT0 l36 nF) (zr X gT0 c36) (zt X gT0 l36) ((zo gT).trans a37) (yc X gT0 l37 nF) (zr X gT0 c37) (zt X gT0 l37) ((zo gT).trans a38) (yc X gT0 l38 nF) (zr X gT0 c38) (zt X gT0 l38) ((zo gT).trans a39) (yc X gT0 l39 nF) (zr X gT0 c39) (zt X gT0 l39) ((zo gT).trans a40) (yc X gT0 l40 nF) (zr X gT0 c40) (zt X gT0 l40) ((zo gT).trans a41) (yc X gT0 l41 nF) (zr X gT0 c41) (zt X gT0 l41) ((zo gT).trans z_len) ((zo gT).trans z_range) ((zo gT).trans z_enumerate) ((zo gT).trans z_sum) ((zo gT).trans z_min) ((zo gT).trans z_max) ((zo gT).trans z_repr) ((zo gT).trans z_isinstance) ((zo gT).trans z_any) ((zo gT).trans z_zip) ((zo gT).trans z_sorted) ((zo gT).trans z_tupleT) ((zo gT).trans z_intT) ((zo gT).trans z_listT) ((zo gT).trans z_strT) ((zo gT).trans z_boolT) ((zo gT).trans y_SILENT) ((zo gT).trans y_OPEN) ((zo gT).trans y_SHUT) ((zo gT).trans y_TRYING) ((zo gT).trans y_HELD) (yc X gT0 yl_FIRST_STANDING (λz=>by cases z)) ((zo gT).trans y_FIRST_STANDING) ((zo gT).trans y_ASK) ((zo gT).trans y_KNOCK) ((zo gT).trans y_SERVED) hcd
 exact⟨fd,hb,c,ocT,lc,hO,hne,hF⟩
theorem walk{l:PySem.W.OpenLaw}{q:Program}{loose:List Str}{XP:(Str->Option Value)->Heap->Prop}{YP:World->Heap->Prop}{d:DefRec}{K:Params->PySem.W.Frag}{T:Addr}(hn:l.most=some 63)(hdf:d.params.defaults = [])
  (hY:∀(w:World) (h:Heap),YP w h->(K w.params).In h/\h.get? T=some zc4)
  (F:∀(w:World) (mg:Str->Option Value) (fa:Addr) (h:Heap),(K w.params).In h->h.get? T=some zc4->h.Ns mainGlobals mg->mg d.name=some (.ref fa) ->
   ∃fd:FuncData,(∀(s:Shared) (u:Value),BindsTo s fd ⟨[u],[]⟩ [("_law_script",u)])/\∃(c:Addr) (oc:Obj),(K w.params).lookup c=some oc/\HdO oc T/\c≠T /\
    ∀base:Heap,(vh T (K w.params)).In base->base.Ns mainGlobals mg->zaa mg base->PySem.W.CodeHd base c T->FnOk l.prog w (vh T (K w.params)) mg base CX0 13 fa fd ["_law_script"] (qz "losing_story.<locals>.<lambda>" T (yh (vh T (K w.params)) zek))) :
  PySem.W.WalkO q loose XP YP l.row.toRowW d [] (λf vs=>PySem.call f vs) :=
 L2.walk_ofT (n:=63) (k:=13) (x := "_law_script") (q := "losing_story.<locals>.<lambda>") (sp:=λw=>yh (vh T (K w.params)) zek) hn (by decide) hdf ⟨rfl,by decide,by decide,rfl⟩ hY F (λ_ _ a ns hl hS=>⟨[.scr ns],λr=>r=.val (.bool true),.cons ⟨a,rfl,hS⟩ .nil,⟨ns,rfl,hl,rfl⟩,λv H' r _ rp e=>by subst e;cases rp;rfl⟩)
end My
namespace PySem.W.Fast
def tw9311323156795388611:=()
def tw17532028408869200809:=()
def tw5356484678065193355:=()
def tw7835889214322953568:=()
def tw2808029719348177083:=()
def tw5393476491077203426:=()
def tw8681449255136807536:=()
def tw5338438138261911714:=()
def tw11403526941407824815:=()
def tw13852757768029197611:=()
def tw14510256386767726343:=()
def tw14572145358484297995:=()
def tw11573833834585771286:=()
def tw17906307206853073461:=()
def tw2300317990284664260:=()
def tw6140777849287305960:=()
def tw860885651037540426:=()
def tw6663880188382883054:=()
def tw15766572246363800282:=()
def tw9687604632872105978:=()
def tw6473225361860207025:=()
def tw2032066422009305672:=()
def tw307360132064321081:=()
def tw10681273908933308125:=()
def tw9968204822182404824:=()
def tw15606641141963429143:=()
def tw8116056551750002156:=()
def tw10110568335925132069:=()
def tw12599555972073331819:=()
def tw15691492212102389443:=()
def tw1488508186663291449:=()
def tw5025076123164677137:=()
def tw11384362161189080276:=()
def tw336914455419681360:=()
def tw8665210297112955184:=()
def tw6031282686977167961:=()
def tw15809124247240393363:=()
def tw4796192775112790802:=()
def tw10870396280738207842:=()
def tw6255873943545098347:=()
def tw14004085108692766379:=()
def tw885513643425878666:=()
def tw1002664045031986333:=()
def tw2127803975428560047:=()
def tw8841687181957486307:=()
def tw10144406200892509470:=()
def tw17575171118093794421:=()
def tw16811979984943488216:=()
def tw8845969019462028794:=()
def tw14577030760699542600:=()
def tw10933183432176967320:=()
def tw8224498508385394928:=()
def tw14853395986333425883:=()
def tw5400693313122304635:=()
def tw15751495603282646724:=()
def tw15177437385873341230:=()
def tw6659961380728375695:=()
def tw9051180338627198756:=()
def tw7600881338418975269:=()
def tw3657625695071605054:=()
def tw2710045081815572796:=()
def tw2477039027134923155:=()
def tw9551795671659167466:=()
def tw10639498994330255152:=()
def tw13785359549100392128:=()
def tw2133586073269970625:=()
def tw5727898277302485610:=()
def tw8153623290519174685:=()
def tw17342374927068117743:=()
def tw6932458766397275645:=()
def tw7414202608428814242:=()
def tw1045172823061998262:=()
def tw7205076820445838417:=()
def tw14136300973423229179:=()
def tw864389842595657809:=()
def tw16003854783804141976:=()
def tw12200913260006811394:=()
def tw3256140578990574396:=()
def tw7171560860774505622:=()
def tw16391624844297514851:=()
def tw17880103633612294709:=()
def tw721143200357836075:=()
def tw18008369737103882147:=()
def tw9428137927411900413:=()
def tw2508860648033002570:=()
def tw8506238681080229416:=()
def tw12943671760472282294:=()
def tw3984167515770976332:=()
def tw7265651565985668304:=()
def tw3844981242683380284:=()
def tw6813795646127857991:=()
def tw11139646627977369262:=()
def tw16531657693331953802:=()
def tw3905103529883826958:=()
def tw10108331120127046270:=()
def tw3528468576211206338:=()
def tw3304636561646197207:=()
def tw5214367027627026577:=()
def tw13802458032356533314:=()
def tw17907692549838791203:=()
def tw8828813673430116251:=()
def tw6175776467614012405:=()
def tw8867882471985598516:=()
def tw1413786408692207987:=()
def tw139093576509813989:=()
def tw7831705201202933012:=()
def tw3739810571973774738:=()
def tw5849446971826572378:=()
def tw8861087165527956948:=()
def tw7963768060102890182:=()
def tw6254423670938491847:=()
def tw5714893441394359733:=()
def tw14747520813788471273:=()
def tw8879426274049982496:=()
def tw8476980692888679971:=()
def tw56066007972996638:=()
def tw3409247901043873969:=()
def tw1352424270444589610:=()
def tw2613902615356188088:=()
def tw4471620869568314707:=()
def tw7346360604071129730:=()
def tw9967745898110857141:=()
def tw9614889652240533685:=()
def tw2012923820686498374:=()
def tw16236627477143957884:=()
def tw7782921867859245983:=()
def tw5035925485660259698:=()
def tw10325075800966366103:=()
def tw6594169049516692509:=()
def tw6920585776745033645:=()
def tw9221192941381292875:=()
def tw953146660010880713:=()
def tw7305563741041005818:=()
def tw12095461255863127599:=()
def tw14029474946716090927:=()
def tw8173367686009711917:=()
def tw2182748159788490033:=()
def tw15064547319306851951:=()
def tw13411137067129245499:=()
def tw303727464272562245:=()
def tw10973151932091454430:=()
def tw11829529030500945261:=()
def tw18269930974157072995:=()
def tw3580254874436309679:=()
def tw17609940142516728366:=()
def tw7300715200406516260:=()
def tw18221090677688485627:=()
def tw4805057315637572335:=()
def tw12883525499826632271:=()
def tw89752132376401726:=()
def tw6385619079905996447:=()
def tw7651005740525517457:=()
def tw12962602332688056334:=()
def tw12105446273348375956:=()
def tw14805038811871563293:=()
def tw15229210414520703605:=()
def tw13405404847956895644:=()
def tw9116519275735679497:=()
def tw18022937884940576415:=()
def tw7901286101535419125:=()
def tw9462811604609286723:=()
def tw14241522321247072911:=()
def tw2382602169754071562:=()
def tw2698750067414903038:=()
def tw15725089314068872510:=()
def tw5260759776268394945:=()
def tw1511230316421298410:=()
def tw12035032934859790101:=()
def tw10007739399026045424:=()
def tw4626228934418216089:=()
def tw13306922187633833964:=()
def tw13937766977993542160:=()
def tw11407963053256365987:=()
def tw16092997871654561422:=()
def tw7132524601120014646:=()
def tw1758294374827111565:=()
def tw2862720462889673413:=()
def tw9162795196159447866:=()
def tw18365660974175607618:=()
def tw2717557242032595337:=()
def tw17288195940883380545:=()
def tw13888610805860493320:=()
def tw6674425689590902677:=()
def tw8385902072574776268:=()
def tw2828886201762392899:=()
def tw6909364354056463156:=()
def tw16021770486984318554:=()
def tw18080902690013343548:=()
def tw3104419318187275130:=()
def tw17494375929135418842:=()
def tw4850393823877767576:=()
def tw7650851632652868582:=()
def tw4436447151139813685:=()
def tw6450828166526744966:=()
def tw17700397951244804007:=()
def tw5665734322012651347:=()
def tw9928394665670894726:=()
def tw15823843617986562818:=()
def tw1112554005098338938:=()
def tw5036548915821993828:=()
def tw17306306119298948594:=()
def tw15544692012891328315:=()
def tw15121348916804706622:=()
def tw17694504857586246701:=()
def tw15460469388069914492:=()
def tw10680257283584118371:=()
def tw9981460972585182592:=()
def tw712928629275071813:=()
def tw6651011825082179753:=()
def tw14767795594659688382:=()
def tw3366396679222872206:=()
def tw12952753523014248560:=()
def tw11819350214900839314:=()
def tw13667129222575305031:=()
def tw4773724839428776673:=()
def tw15783042503228425043:=()
def tw4696040652857215086:=()
def tw7701072219321179154:=()
def tw11026136943903506512:=()
def tw5253392588154799373:=()
def tw5936101325794662715:=()
def tw5085698571782146424:=()
def tw1562137742284668290:=()
def tw6786488084437592237:=()
def tw16965367510810459018:=()
def tw8423925267356520969:=()
def tw4266061961414142174:=()
def tw2958853006831778322:=()
def tw8909080657097008302:=()
def tw16971046262443972700:=()
def tw15807441341486549507:=()
def tw2725407964624009352:=()
def tw817098535310714767:=()
def tw18184230144786385788:=()
def tw7845936140630504892:=()
def tw17990651311191202941:=()
def tw10295122618890600947:=()
def tw17470220767405011621:=()
def tw9865691621012021953:=()
def tw6834909873363263507:=()
def tw12552703188211684724:=()
def tw12721447412353652118:=()
def tw12690061479531390313:=()
def tw5003971835549790648:=()
def tw1407662904610989723:=()
def tw14576433409642124899:=()
def tw14706841684029392656:=()
def tw1063029830547302488:=()
def tw16498069482429756486:=()
def tw2967793255237179823:=()
def tw9524416448460697296:=()
def tw12136263857436475271:=()
def tw4163509256375478148:=()
def tw13185347833010708734:=()
def tw12837592137604943150:=()
def tw6645951542617155229:=()
def tw14689162371110127357:=()
def tw10159545922184837490:=()
def tw13864756625610660172:=()
def tw8657208621618373426:=()
def tw15509821203845396880:=()
def tw17843645142268227138:=()
def tw11535288773692148785:=()
def tw13320145480721629011:=()
def tw13214937428690837172:=()
def tw6845269582304888923:=()
def tw5078336490588231058:=()
def tw17643221571632543820:=()
def tw14436041415542194934:=()
def tw17205968191241103683:=()
def tw17395461898925126337:=()
def tw718312105959889045:=()
def tw16282139017289009846:=()
def tw16246584462815532490:=()
def tw2960931935090446507:=()
def tw2638430973847080069:=()
def tw14921440800661830709:=()
def tw6190971227514388107:=()
def tw11679164104397454670:=()
def tw6809016684302997235:=()
def tw7869307551911514240:=()
def tw13147477962394374753:=()
def tw16411374152592134223:=()
def tw14189168449430652922:=()
def tw1866409708591188193:=()
def tw9092886499707852719:=()
def tw5971778675985901561:=()
def tw3155772732629116269:=()
def tw1391906279912270760:=()
def tw7379483140778810180:=()
def tw791086038707076713:=()
def tw15348987918333967092:=()
def tw4074551993968287519:=()
end PySem.W.Fast
open PySem PySem.W PyProof.Rows
set_option maxRecDepth 100000 in
set_option maxHeartbeats 0 in
theorem PySem.Challenge.cw_knockpurse_k75_the_least_silence_holds : PySem.Challenge.rw_knockpurse_k75_the_least_silence.Holds := by
 w_on;o_law;k_head;(case hw=>w_witness2)
 k_fill
 refine My.walk (l:=PySem.Challenge.rw_knockpurse_k75_the_least_silence) rfl rfl (λw h Y=>⟨PySem.W.km_in_of Y,PySem.W.km_tabs_of Y _ (.head _)⟩) ?F
 case F=>
  intro w mg fa h KX GT G hmg
  refine' My.all_mkT KX G hmg ?a0 ?l0 ?c0 ?k0 ?a1 ?l1 ?c1 ?k1 ?a2 ?l2 ?c2 ?k2 ?a3 ?l3 ?c3 ?k3 ?a4 ?l4 ?c4 ?k4 ?a5 ?l5 ?c5 ?k5 ?a6 ?l6 ?c6 ?k6 ?a7 ?l7 ?c7 ?k7 ?a8 ?l8 ?c8 ?k8 ?a9 ?l9 ?c9 ?k9 ?a10 ?l10 ?c10 ?k10 ?a11 ?l11 ?c11 ?k11 ?a12 ?l12 ?c12 ?k12 ?a13 ?l13 ?c13 ?k13 ?a14 ?l14 ?c14 ?k14 ?a15 ?l15 ?c15 ?k15 ?a16 ?l16 ?c16 ?k16 ?a17 ?l17 ?c17 ?k17 ?a18 ?l18 ?c18 ?k18 ?a19 ?l19 ?c19 ?k19 ?a20 ?l20 ?c20 ?k20 ?a21 ?l21 ?c21 ?k21 ?a22 ?l22 ?c22 ?k22 ?a23 ?l23 ?c23 ?k23 ?a24 ?l24 ?c24 ?k24 ?a25 ?l25 ?c25 ?k25 ?a26 ?l26 ?c26 ?k26 ?a27 ?l27 ?c27 ?k27 ?a28 ?l28 ?c28 ?k28 ?a29 ?l29 ?c29 ?k29 ?a30 ?l30 ?c30 ?k30 ?a31 ?l31 ?c31 ?k31 ?a32 ?l32 ?c32 ?k32 ?a33 ?l33 ?c33 ?k33 ?a34 ?l34 ?c34 ?k34 ?a35 ?l35 ?c35 ?k35 ?a36 ?l36 ?c36 ?k36 ?a37 ?l37 ?c37 ?k37 ?a38 ?l38 ?c38 ?k38 ?a39 ?l39 ?c39 ?k39 ?a40 ?l40 ?c40 ?k40 ?a41 ?l41 ?c41 ?k41 ?z_len ?z_range ?z_enumerate ?z_sum ?z_min ?z_max ?z_repr ?z_isinstance ?z_any ?z_zip ?z_sorted ?z_tupleT ?z_intT ?z_listT ?z_strT ?z_boolT ?y_SILENT ?y_OPEN ?y_SHUT ?y_TRYING ?y_HELD ?yl_FIRST_STANDING ?y_FIRST_STANDING ?y_ASK ?y_KNOCK ?y_SERVED  ?hcd ?lc ?hO ?hne GT
  (case a0=>k_is);(case l0=>k_is);(case c0=>k_is);(case k0=>k_is)
  (case a1=>k_is);(case l1=>k_is);(case c1=>k_is);(case k1=>k_is)
  (case a2=>k_is);(case l2=>k_is);(case c2=>k_is);(case k2=>k_is)
  (case a3=>k_is);(case l3=>k_is);(case c3=>k_is);(case k3=>k_is)
  (case a4=>k_is);(case l4=>k_is);(case c4=>k_is);(case k4=>k_is)
  (case a5=>k_is);(case l5=>k_is);(case c5=>k_is);(case k5=>k_is)
  (case a6=>k_is);(case l6=>k_is);(case c6=>k_is);(case k6=>k_is)
  (case a7=>k_is);(case l7=>k_is);(case c7=>k_is);(case k7=>k_is)
  (case a8=>k_is);(case l8=>k_is);(case c8=>k_is);(case k8=>k_is)
  (case a9=>k_is);(case l9=>k_is);(case c9=>k_is);(case k9=>k_is)
  (case a10=>k_is);(case l10=>k_is);(case c10=>k_is);(case k10=>k_is)
  (case a11=>k_is);(case l11=>k_is);(case c11=>k_is);(case k11=>k_is)
  (case a12=>k_is);(case l12=>k_is);(case c12=>k_is);(case k12=>k_is)
  (case a13=>k_is);(case l13=>k_is);(case c13=>k_is);(case k13=>k_is)
  (case a14=>k_is);(case l14=>k_is);(case c14=>k_is);(case k14=>k_is)
  (case a15=>k_is);(case l15=>k_is);(case c15=>k_is);(case k15=>k_is)
  (case a16=>k_is);(case l16=>k_is);(case c16=>k_is);(case k16=>k_is)
  (case a17=>k_is);(case l17=>k_is);(case c17=>k_is);(case k17=>k_is)
  (case a18=>k_is);(case l18=>k_is);(case c18=>k_is);(case k18=>k_is)
  (case a19=>k_is);(case l19=>k_is);(case c19=>k_is);(case k19=>k_is)
  (case a20=>k_is);(case l20=>k_is);(case c20=>k_is);(case k20=>k_is)
  (case a21=>k_is);(case l21=>k_is);(case c21=>k_is);(case k21=>k_is)
  (case a22=>k_is);(case l22=>k_is);(case c22=>k_is);(case k22=>k_is)
  (case a23=>k_is);(case l23=>k_is);(case c23=>k_is);(case k23=>k_is)
  (case a24=>k_is);(case l24=>k_is);(case c24=>k_is);(case k24=>k_is)
  (case a25=>k_is);(case l25=>k_is);(case c25=>k_is);(case k25=>k_is)
  (case a26=>k_is);(case l26=>k_is);(case c26=>k_is);(case k26=>k_is)
  (case a27=>k_is);(case l27=>k_is);(case c27=>k_is);(case k27=>k_is)
  (case a28=>k_is);(case l28=>k_is);(case c28=>k_is);(case k28=>k_is)
  (case a29=>k_is);(case l29=>k_is);(case c29=>k_is);(case k29=>k_is)
  (case a30=>k_is);(case l30=>k_is);(case c30=>k_is);(case k30=>k_is)
  (case a31=>k_is);(case l31=>k_is);(case c31=>k_is);(case k31=>k_is)
  (case a32=>k_is);(case l32=>k_is);(case c32=>k_is);(case k32=>k_is)
  (case a33=>k_is);(case l33=>k_is);(case c33=>k_is);(case k33=>k_is)
  (case a34=>k_is);(case l34=>k_is);(case c34=>k_is);(case k34=>k_is)
  (case a35=>k_is);(case l35=>k_is);(case c35=>k_is);(case k35=>k_is)
  (case a36=>k_is);(case l36=>k_is);(case c36=>k_is);(case k36=>k_is)
  (case a37=>k_is);(case l37=>k_is);(case c37=>k_is);(case k37=>k_is)
  (case a38=>k_is);(case l38=>k_is);(case c38=>k_is);(case k38=>k_is)
  (case a39=>k_is);(case l39=>k_is);(case c39=>k_is);(case k39=>k_is)
  (case a40=>k_is);(case l40=>k_is);(case c40=>k_is);(case k40=>k_is)
  (case a41=>k_is);(case l41=>k_is);(case c41=>k_is);(case k41=>k_is)
  (case z_len=>k_is)
  (case z_range=>k_is)
  (case z_enumerate=>k_is)
  (case z_sum=>k_is)
  (case z_min=>k_is)
  (case z_max=>k_is)
  (case z_repr=>k_is)
  (case z_isinstance=>k_is)
  (case z_any=>k_is)
  (case z_zip=>k_is)
  (case z_sorted=>k_is)
  (case z_tupleT=>k_is)
  (case z_intT=>k_is)
  (case z_listT=>k_is)
  (case z_strT=>k_is)
  (case z_boolT=>k_is)
  (case y_SILENT=>k_is)
  (case y_OPEN=>k_is)
  (case y_SHUT=>k_is)
  (case y_TRYING=>k_is)
  (case y_HELD=>k_is)
  (case y_FIRST_STANDING=>k_is)
  (case yl_FIRST_STANDING=>k_is)
  (case y_ASK=>k_is)
  (case y_KNOCK=>k_is)
  (case y_SERVED=>k_is)
  (case hcd=>rfl)
  (case lc=>k_is)
  (case hO=>exact⟨_,_,_,_,_,_,_,_,rfl,rfl,rfl,rfl,rfl,rfl,rfl,rfl⟩)
  (case hne=>decide)
